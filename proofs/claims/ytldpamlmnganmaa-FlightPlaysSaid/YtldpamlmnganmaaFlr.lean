/- The known calls of layer 14. No condition. -/
import Derived.Test.YtldpamlmnganmaaFlq
namespace Go.Proofs.Ytldpamlmnganmaa.FL
open Go.ChangeShapes Go.WideShapes Go.ChangeAt Go.RowKit Go.Maps Go.ChangeMaps
open Go.Proofs.Ytldpamlmnganmaa.SL
set_option maxRecDepth 100000
set_option linter.unusedVariables false
set_option linter.unusedSimpArgs false

def qK : Ky := (⟨#[]⟩, ⟨#[]⟩, 0, ⟨#[113]⟩)
theorem fitQ : FitK qK := by unfold FitK qK; decide
theorem fitZ : FitK zKy := by unfold FitK zKy; decide
theorem i9 (n : Int) (h : -1000 ≤ n ∧ n ≤ 1000) : I9 n := ⟨by omega, by omega⟩
theorem e1 : askS [] qK 1 = ([(qK, [1])], true, 0) := by decide
theorem e2 : askS [(qK, [1])] qK 2 = ([(qK, [1, 2])], false, 0) := by decide
theorem e3 : askS [(qK, [1, 2])] zKy 2 = ([(qK, [1, 2])], false, 10) := by decide
theorem e4 : askS [(qK, [1, 2])] qK (-1) = ([(qK, [1, 2])], false, 1) := by decide
theorem e5 : askS [(qK, [1, 2])] qK 3 = ([(qK, [1, 2, 3])], false, 0) := by decide
theorem e6 : leaveS [(qK, [1, 2, 3])] 2 = ([(qK, [1, 3])], [], true) := by decide
theorem e7 : leadS [(qK, [1, 3])] qK = (1, true) := by decide
theorem e8 : waitS [(qK, [1, 3])] 3 = (qK, true) := by decide
theorem e9 : landS [(qK, [1, 3])] qK = ([], 1, [3], true) := by decide
theorem e10 : landS [] qK = ([], 0, [], false) := by decide
theorem IS.one (w : World) (k : Int) : IS (w.alloc (.cells #[nV k] 3)) (.slice (some ⟨w.heap.size, 0, none⟩) 1 1) [k] :=
  .inr ⟨w.heap.size, 0, 1, #[nV k], (0, 0), rfl, Nat.le_refl _, heap_alloc_new w _, fun i x hi => by
    cases i with
    | zero => simp at hi; subst hi; rfl
    | succ i => simp at hi⟩
def KnP (w : World) (e : Ending) (w' : World) : Prop := e = .returned (.bool true) ∧ Below w.heap.size w w'
set_option maxHeartbeats 16000000 in
theorem known_any (w : World) : Calls Try.prog 24 #[] w (KnP w) := by
  go_enter Try.func24, Try.ntmps24
  go_wp2_with fail
  refine (lb_new w).mono ?_
  rintro e w1 ⟨a, rfl, hlb, hb1⟩
  obtain ⟨W2, hW2⟩ : ∃ W, w1.alloc (.cells (kC qK) 30) = W := ⟨_, rfl⟩
  obtain ⟨qb, hqb⟩ : ∃ b, w1.heap.size = b := ⟨_, rfl⟩
  have b2 : Below w1.heap.size w1 W2 := by rw [← hW2]; exact (Below.refl _ _).alloc (Nat.le_refl _) _
  have HK := Lib.hid (show Bk W2 qb 30 (kC qK) by rw [← hW2, ← hqb]; exact Bk.new _ _ _)
  have HL := Lib.hid (hlb.below b2)
  have HB := Lib.hid (hb1.trans (b2.mono hb1.size))
  unfold qK at hW2
  clear hlb hb1 b2
  have HC := Lib.hid (lb_ask HL.out (by omega) qK fitQ 1 (i9 _ (by omega)))
  rw [e1] at HC
  have q0 : W2.cell? ⟨qb, 0, none⟩ = some (.string ⟨#[]⟩) := HK.out.cell 0
  have q1 : W2.cell? ⟨qb, 1, none⟩ = some (.string ⟨#[]⟩) := HK.out.cell 1
  have q2 : W2.cell? ⟨qb, 2, none⟩ = some (.int .i64 0) := HK.out.cell 2
  have q3 : W2.cell? ⟨qb, 3, none⟩ = some (.string ⟨#[113]⟩) := HK.out.cell 3
  go_wp2_with fail
  try rw [hW2]
  try rw [hqb]
  refine HC.out.mono ?_
  clear HC q0 q1 q2 q3 hW2 hqb
  rintro e x0 ⟨rfl, hs⟩
  have HK := Lib.hid (hs.kf.bk (show Bk _ qb 30 (kC qK) from HK.out))
  have HL := Lib.hid hs.lb
  have HB := Lib.hid (HB.out.trans hs.bel)
  clear hs
  have HC := Lib.hid (lb_ask HL.out (by omega) qK fitQ 2 (i9 _ (by omega)))
  rw [e2] at HC
  have q0 : x0.cell? ⟨qb, 0, none⟩ = some (.string ⟨#[]⟩) := HK.out.cell 0
  have q1 : x0.cell? ⟨qb, 1, none⟩ = some (.string ⟨#[]⟩) := HK.out.cell 1
  have q2 : x0.cell? ⟨qb, 2, none⟩ = some (.int .i64 0) := HK.out.cell 2
  have q3 : x0.cell? ⟨qb, 3, none⟩ = some (.string ⟨#[113]⟩) := HK.out.cell 3
  go_wp2_with fail
  refine HC.out.mono ?_
  clear HC q0 q1 q2 q3
  rintro e x1 ⟨rfl, hs⟩
  have HK := Lib.hid (hs.kf.bk (show Bk _ qb 30 (kC qK) from HK.out))
  have HL := Lib.hid hs.lb
  have HB := Lib.hid (HB.out.trans hs.bel)
  clear hs
  have HC := Lib.hid (lb_ask HL.out (by omega) zKy fitZ 2 (i9 _ (by omega)))
  rw [e3] at HC
  have q0 : x1.cell? ⟨qb, 0, none⟩ = some (.string ⟨#[]⟩) := HK.out.cell 0
  have q1 : x1.cell? ⟨qb, 1, none⟩ = some (.string ⟨#[]⟩) := HK.out.cell 1
  have q2 : x1.cell? ⟨qb, 2, none⟩ = some (.int .i64 0) := HK.out.cell 2
  have q3 : x1.cell? ⟨qb, 3, none⟩ = some (.string ⟨#[113]⟩) := HK.out.cell 3
  go_wp2_with fail
  refine HC.out.mono ?_
  clear HC q0 q1 q2 q3
  rintro e x2 ⟨rfl, hs⟩
  have HK := Lib.hid (hs.kf.bk (show Bk _ qb 30 (kC qK) from HK.out))
  have HL := Lib.hid hs.lb
  have HB := Lib.hid (HB.out.trans hs.bel)
  clear hs
  have HC := Lib.hid (lb_ask HL.out (by omega) qK fitQ (-1) (i9 _ (by omega)))
  rw [e4] at HC
  have q0 : x2.cell? ⟨qb, 0, none⟩ = some (.string ⟨#[]⟩) := HK.out.cell 0
  have q1 : x2.cell? ⟨qb, 1, none⟩ = some (.string ⟨#[]⟩) := HK.out.cell 1
  have q2 : x2.cell? ⟨qb, 2, none⟩ = some (.int .i64 0) := HK.out.cell 2
  have q3 : x2.cell? ⟨qb, 3, none⟩ = some (.string ⟨#[113]⟩) := HK.out.cell 3
  go_wp2_with fail
  refine HC.out.mono ?_
  clear HC q0 q1 q2 q3
  rintro e x3 ⟨rfl, hs⟩
  have HK := Lib.hid (hs.kf.bk (show Bk _ qb 30 (kC qK) from HK.out))
  have HL := Lib.hid hs.lb
  have HB := Lib.hid (HB.out.trans hs.bel)
  clear hs
  have HC := Lib.hid (lb_ask HL.out (by omega) qK fitQ 3 (i9 _ (by omega)))
  rw [e5] at HC
  have q0 : x3.cell? ⟨qb, 0, none⟩ = some (.string ⟨#[]⟩) := HK.out.cell 0
  have q1 : x3.cell? ⟨qb, 1, none⟩ = some (.string ⟨#[]⟩) := HK.out.cell 1
  have q2 : x3.cell? ⟨qb, 2, none⟩ = some (.int .i64 0) := HK.out.cell 2
  have q3 : x3.cell? ⟨qb, 3, none⟩ = some (.string ⟨#[113]⟩) := HK.out.cell 3
  go_wp2_with fail
  refine HC.out.mono ?_
  clear HC q0 q1 q2 q3
  rintro e x4 ⟨rfl, hs⟩
  have HK := Lib.hid (hs.kf.bk (show Bk _ qb 30 (kC qK) from HK.out))
  have HL := Lib.hid hs.lb
  have HB := Lib.hid (HB.out.trans hs.bel)
  clear hs
  have HC := Lib.hid (lb_leave HL.out (by omega) 2 (i9 _ (by omega)))
  rw [e6] at HC
  have q0 : x4.cell? ⟨qb, 0, none⟩ = some (.string ⟨#[]⟩) := HK.out.cell 0
  have q1 : x4.cell? ⟨qb, 1, none⟩ = some (.string ⟨#[]⟩) := HK.out.cell 1
  have q2 : x4.cell? ⟨qb, 2, none⟩ = some (.int .i64 0) := HK.out.cell 2
  have q3 : x4.cell? ⟨qb, 3, none⟩ = some (.string ⟨#[113]⟩) := HK.out.cell 3
  go_wp2_with fail
  refine HC.out.mono ?_
  clear HC q0 q1 q2 q3
  rintro e x5 ⟨v1, rfl, hi1, hs⟩
  have HK := Lib.hid (hs.kf.bk (show Bk _ qb 30 (kC qK) from HK.out))
  have HL := Lib.hid hs.lb
  have HB := Lib.hid (HB.out.trans hs.bel)
  obtain ⟨va1, vc1, rfl⟩ := hi1.form
  clear hs hi1
  have HC := Lib.hid (lb_lead HL.out qK fitQ)
  rw [e7] at HC
  have q0 : x5.cell? ⟨qb, 0, none⟩ = some (.string ⟨#[]⟩) := HK.out.cell 0
  have q1 : x5.cell? ⟨qb, 1, none⟩ = some (.string ⟨#[]⟩) := HK.out.cell 1
  have q2 : x5.cell? ⟨qb, 2, none⟩ = some (.int .i64 0) := HK.out.cell 2
  have q3 : x5.cell? ⟨qb, 3, none⟩ = some (.string ⟨#[113]⟩) := HK.out.cell 3
  go_wp2_with fail
  refine HC.out.mono ?_
  clear HC q0 q1 q2 q3
  rintro e x6 ⟨rfl, hb⟩
  have HK := Lib.hid ((Kf.below hb).bk (show Bk _ qb 30 (kC qK) from HK.out))
  have HL := Lib.hid (HL.out.below hb)
  have HB := Lib.hid (HB.out.trans (hb.mono HB.out.size))
  clear hb
  have HC := Lib.hid (lb_waits HL.out 3 (i9 _ (by omega)))
  rw [e8] at HC
  have HD : Hid (Calls Try.prog 21 #[ptr a, .int .i64 3] x6 (RdP (.tuple #[.agg #[.string ⟨#[]⟩, .string ⟨#[]⟩, .int .i64 0, .string ⟨#[113]⟩], .bool true]) x6)) := HC
  clear HC
  have HC := HD
  clear HD
  have q0 : x6.cell? ⟨qb, 0, none⟩ = some (.string ⟨#[]⟩) := HK.out.cell 0
  have q1 : x6.cell? ⟨qb, 1, none⟩ = some (.string ⟨#[]⟩) := HK.out.cell 1
  have q2 : x6.cell? ⟨qb, 2, none⟩ = some (.int .i64 0) := HK.out.cell 2
  have q3 : x6.cell? ⟨qb, 3, none⟩ = some (.string ⟨#[113]⟩) := HK.out.cell 3
  go_wp2_with fail
  refine HC.out.mono ?_
  clear HC q0 q1 q2 q3
  rintro e x7 ⟨rfl, hb⟩
  have HK := Lib.hid ((Kf.below hb).bk (show Bk _ qb 30 (kC qK) from HK.out))
  have HL := Lib.hid (HL.out.below hb)
  have HB := Lib.hid (HB.out.trans (hb.mono HB.out.size))
  obtain ⟨W9, hW9⟩ : ∃ W, x7.alloc (.cells (kC qK) 30) = W := ⟨_, rfl⟩
  obtain ⟨kb, hkb⟩ : ∃ b, x7.heap.size = b := ⟨_, rfl⟩
  have b9 : Below x7.heap.size x7 W9 := by rw [← hW9]; exact (Below.refl _ _).alloc (Nat.le_refl _) _
  have HK9 := Lib.hid (show Bk W9 kb 30 (kC qK) by rw [← hW9, ← hkb]; exact Bk.new _ _ _)
  have HK := Lib.hid ((Kf.below b9).bk (show Bk x7 qb 30 (kC qK) from HK.out))
  have HL := Lib.hid (HL.out.below b9)
  have HB := Lib.hid (HB.out.trans (b9.mono HB.out.size))
  unfold qK at hW9
  clear hb b9
  have HC := Lib.hid (lb_land HL.out (by omega) qK fitQ)
  rw [e9] at HC
  have q0 : W9.cell? ⟨qb, 0, none⟩ = some (.string ⟨#[]⟩) := HK.out.cell 0
  have q1 : W9.cell? ⟨qb, 1, none⟩ = some (.string ⟨#[]⟩) := HK.out.cell 1
  have q2 : W9.cell? ⟨qb, 2, none⟩ = some (.int .i64 0) := HK.out.cell 2
  have q3 : W9.cell? ⟨qb, 3, none⟩ = some (.string ⟨#[113]⟩) := HK.out.cell 3
  go_wp2_with fail
  try rw [hW9]
  try rw [hkb]
  refine HC.out.mono ?_
  clear HC q0 q1 q2 q3 hW9 hkb
  rintro e x8 ⟨v3, rfl, hi3, hs⟩
  have HK := Lib.hid (hs.kf.bk (show Bk _ qb 30 (kC qK) from HK.out))
  have HL := Lib.hid hs.lb
  have HB := Lib.hid (HB.out.trans hs.bel)
  have HK9 := Lib.hid (hs.kf.bk (show Bk _ kb 30 (kC qK) from HK9.out))
  obtain ⟨va3, vc3, rfl⟩ := hi3.form
  have HI3 := Lib.hid (show IS x8 (.slice va3 1 vc3) [3] from hi3)
  clear hs hi3
  have HC := Lib.hid (lb_land HL.out (by omega) qK fitQ)
  rw [e10] at HC
  have q0 : x8.cell? ⟨qb, 0, none⟩ = some (.string ⟨#[]⟩) := HK.out.cell 0
  have q1 : x8.cell? ⟨qb, 1, none⟩ = some (.string ⟨#[]⟩) := HK.out.cell 1
  have q2 : x8.cell? ⟨qb, 2, none⟩ = some (.int .i64 0) := HK.out.cell 2
  have q3 : x8.cell? ⟨qb, 3, none⟩ = some (.string ⟨#[113]⟩) := HK.out.cell 3
  go_wp2_with fail
  refine HC.out.mono ?_
  clear HC q0 q1 q2 q3
  rintro e x9 ⟨v4, rfl, hi4, hs⟩
  have HK := Lib.hid (hs.kf.bk (show Bk _ qb 30 (kC qK) from HK.out))
  have HL := Lib.hid hs.lb
  have HB := Lib.hid (HB.out.trans hs.bel)
  have HK9 := Lib.hid (hs.kf.bk (show Bk _ kb 30 (kC qK) from HK9.out))
  obtain ⟨va4, vc4, rfl⟩ := hi4.form
  have HI3 := Lib.hid (HI3.out.ki hs.kf.ki)
  clear hs hi4
  have q0 : x9.cell? ⟨qb, 0, none⟩ = some (.string ⟨#[]⟩) := HK.out.cell 0
  have q1 : x9.cell? ⟨qb, 1, none⟩ = some (.string ⟨#[]⟩) := HK.out.cell 1
  have q2 : x9.cell? ⟨qb, 2, none⟩ = some (.int .i64 0) := HK.out.cell 2
  have q3 : x9.cell? ⟨qb, 3, none⟩ = some (.string ⟨#[113]⟩) := HK.out.cell 3
  have r0 : x9.cell? ⟨kb, 0, none⟩ = some (.string ⟨#[]⟩) := HK9.out.cell 0
  have r1 : x9.cell? ⟨kb, 1, none⟩ = some (.string ⟨#[]⟩) := HK9.out.cell 1
  have r2 : x9.cell? ⟨kb, 2, none⟩ = some (.int .i64 0) := HK9.out.cell 2
  have r3 : x9.cell? ⟨kb, 3, none⟩ = some (.string ⟨#[113]⟩) := HK9.out.cell 3
  have bA : Below x9.heap.size x9 (x9.alloc (.cells #[nV 3] 3)) := (Below.refl _ _).alloc (Nat.le_refl _) _
  have HIN := Lib.hid (ints_any (x9.alloc (.cells #[nV 3] 3)) _ _ [3] [3] (HI3.out.below bA) (IS.one x9 3) (by decide))
  rw [decide_eq_true rfl] at HIN
  have HL := Lib.hid (HL.out.below bA)
  have HB := Lib.hid (HB.out.trans (bA.mono HB.out.size))
  clear bA
  go_wp2_with fail
  refine HIN.out.mono ?_
  rintro e xa ⟨rfl, hb⟩
  have HO : Hid (Calls Try.prog 23 #[ptr a] xa fun e w' => e = .returned (.int .i64 0) ∧ xa = w') := Lib.hid (lb_open (HL.out.below hb))
  have HB := Lib.hid (HB.out.trans (hb.mono HB.out.size))
  clear hb q0 q1 q2 q3 r0 r1 r2 r3
  go_wp2_with fail
  refine HO.out.mono ?_
  rintro e xb ⟨rfl, rfl⟩
  go_wp2
  go_ret
  exact ⟨rfl, HB.out⟩
end Go.Proofs.Ytldpamlmnganmaa.FL
