/- Package pool, its code: Give. Conditions: how many calls there were; idle ones rise; how many. -/
import Derived.Test.YtochjbmighijgaaPor
namespace Go.Proofs.Ytochjbmighijgaa.PO
open Go.ChangeShapes Go.WideShapes Go.ChangeAt Go.RowKit Go.Maps Go.ChangeMaps
open Go.Proofs.Ytochjbmighijgaa.SL Go.Proofs.Ytochjbmighijgaa.RW
open Go.Proofs.Ytochjbmighijgaa.LN (tkY tkN pu OI IS RdP)
set_option maxRecDepth 100000
set_option linter.unusedVariables false
set_option linter.unusedSimpArgs false

open Go.Proofs.Ytochjbmighijgaa.LN (firstS)
section
variable {B : Nat} {w w' : World} {a N : Nat} {C : Cf} {R : Raw}
set_option maxHeartbeats 4000000 in
theorem give_none (h : PL B w a N C R) (c now : Int) (hc : I9 c) (hs : R.sm c = none) :
    Calls Try.prog 9 #[ptr a, nV c, nV now] w (RdP (.tuple #[loV 0 0 false, .bool false]) w) := by
  obtain ⟨W0, hW0⟩ : ∃ W, w.alloc (.cells #[nV 0, nV 0, .bool false] 30) = W := ⟨_, rfl⟩
  obtain ⟨kb, hkb⟩ : ∃ b, w.heap.size = b := ⟨_, rfl⟩
  have HB0 : Hid (Below w.heap.size w W0) := Lib.hid (by rw [← hW0]; exact (Below.refl _ _).alloc (Nat.le_refl _) _)
  have HK0 : Hid (Bk W0 kb 30 #[nV 0, nV 0, .bool false]) := Lib.hid (by rw [← hW0, ← hkb]; exact Bk.new _ _ _)
  have HKS : Hid (w.heap.size ≤ kb) := Lib.hid (Nat.le_of_eq hkb)
  have HS := Lib.hid (sits_any (h.below HB0.out) c hc)
  rw [hs] at HS
  simp only [seO, Option.isSome_none] at HS
  obtain ⟨px, hpx⟩ : ∃ x : Option Addr, none = x := ⟨_, rfl⟩
  obtain ⟨pn, hpn⟩ : ∃ n : Int, 0 = n := ⟨_, rfl⟩
  obtain ⟨pb, hpb⟩ : ∃ b : Bool, false = b := ⟨_, rfl⟩
  rw [show (Value.agg #[.pointer none, nV 0, .bool false]) = .agg #[.pointer px, nV pn, .bool pb] by rw [hpx, hpn, hpb]] at HS
  clear hpx hpn hpb h hc hs
  go_enter Try.func9, Try.ntmps9
  go_wp2_with fail
  try rw [hW0]
  try rw [hkb]
  refine HS.out.mono ?_
  rintro e w1 ⟨rfl, hb1⟩
  have HB1 := Lib.hid hb1
  clear hb1
  obtain ⟨W2, hW2⟩ : ∃ W, w1.alloc (.cells #[.pointer px, nV pn, .bool pb] 59) = W := ⟨_, rfl⟩
  obtain ⟨sb, hsb⟩ : ∃ b, w1.heap.size = b := ⟨_, rfl⟩
  have HB2 : Hid (Below w1.heap.size w1 W2) := Lib.hid (by rw [← hW2]; exact (Below.refl _ _).alloc (Nat.le_refl _) _)
  have HK2 : Hid (Bk W2 sb 59 #[.pointer px, nV pn, .bool pb]) := Lib.hid (by rw [← hW2, ← hsb]; exact Bk.new _ _ _)
  have HKL := Lib.hid ((HK0.out.heap (HB1.out.block kb HK0.out.lt)).heap (HB2.out.block kb (Nat.lt_of_lt_of_le HK0.out.lt HB1.out.size)))
  have k0 := HKL.out
  have q0 := k0.cell 0
  have qf0 := k0.frozen 0
  have q1 := k0.cell 1
  have qf1 := k0.frozen 1
  have q2 := k0.cell 2
  have qf2 := k0.frozen 2
  simp at q0 q1 q2
  clear k0
  have HBB := Lib.hid ((HB0.out.trans (HB1.out.mono HB0.out.size)).trans (HB2.out.mono (Nat.le_trans HB0.out.size HB1.out.size)))
  have HSZ : Hid (w.heap.size ≤ kb) := Lib.hid HKS.out
  go_wp2_with fail
  try rw [hsb]
  try rw [hW2]
  have k5 := ((HKL.out.set_ 0 (nV 0)).set_ 1 (nV 0)).set_ 2 (.bool false)
  have e0 := k5.cell 0
  have e1 := k5.cell 1
  have e2 := k5.cell 2
  simp at e0 e1 e2
  refine bodyPost_ret (v := .tuple #[loV 0 0 false, .bool false]) (by simp [results, Try.results9, go_sem, e0, e1, e2]) rfl ?_
  exact ⟨rfl, ((HBB.out.setCell (p := ⟨kb, 0, none⟩) HSZ.out _).setCell (p := ⟨kb, 1, none⟩) HSZ.out _).setCell (p := ⟨kb, 2, none⟩) HSZ.out _⟩
set_option maxHeartbeats 4000000 in
theorem give_no (h : PL B w a N C R) (c now : Int) (hc : I9 c) {g : Nat} {n : Int} {p : Bool} (hs : R.sm c = some (g, n, p)) (hn : n = 0 ∨ p = true) :
    Calls Try.prog 9 #[ptr a, nV c, nV now] w (RdP (.tuple #[loV 0 0 false, .bool false]) w) := by
  obtain ⟨W0, hW0⟩ : ∃ W, w.alloc (.cells #[nV 0, nV 0, .bool false] 30) = W := ⟨_, rfl⟩
  obtain ⟨kb, hkb⟩ : ∃ b, w.heap.size = b := ⟨_, rfl⟩
  have HB0 : Hid (Below w.heap.size w W0) := Lib.hid (by rw [← hW0]; exact (Below.refl _ _).alloc (Nat.le_refl _) _)
  have HK0 : Hid (Bk W0 kb 30 #[nV 0, nV 0, .bool false]) := Lib.hid (by rw [← hW0, ← hkb]; exact Bk.new _ _ _)
  have HKS : Hid (w.heap.size ≤ kb) := Lib.hid (Nat.le_of_eq hkb)
  have HS := Lib.hid (sits_any (h.below HB0.out) c hc)
  rw [hs] at HS
  simp only [seO, Option.isSome_some] at HS
  clear h hc hs
  rcases hn with rfl | rfl
  · skip
    go_enter Try.func9, Try.ntmps9
    go_wp2_with fail
    try rw [hW0]
    try rw [hkb]
    refine HS.out.mono ?_
    rintro e w1 ⟨rfl, hb1⟩
    have HB1 := Lib.hid hb1
    clear hb1
    obtain ⟨W2, hW2⟩ : ∃ W, w1.alloc (.cells #[ptr g, nV 0, .bool p] 59) = W := ⟨_, rfl⟩
    obtain ⟨sb, hsb⟩ : ∃ b, w1.heap.size = b := ⟨_, rfl⟩
    have HB2 : Hid (Below w1.heap.size w1 W2) := Lib.hid (by rw [← hW2]; exact (Below.refl _ _).alloc (Nat.le_refl _) _)
    have HK2 : Hid (Bk W2 sb 59 #[ptr g, nV 0, .bool p]) := Lib.hid (by rw [← hW2, ← hsb]; exact Bk.new _ _ _)
    have HKL := Lib.hid ((HK0.out.heap (HB1.out.block kb HK0.out.lt)).heap (HB2.out.block kb (Nat.lt_of_lt_of_le HK0.out.lt HB1.out.size)))
    have k0 := HKL.out
    have q0 := k0.cell 0
    have qf0 := k0.frozen 0
    have q1 := k0.cell 1
    have qf1 := k0.frozen 1
    have q2 := k0.cell 2
    have qf2 := k0.frozen 2
    simp at q0 q1 q2
    clear k0
    have k1 := HK2.out
    have s0 := k1.cell 0
    have s1 := k1.cell 1
    have s2 := k1.cell 2
    simp at s0 s1 s2
    clear k1
    have HBB := Lib.hid ((HB0.out.trans (HB1.out.mono HB0.out.size)).trans (HB2.out.mono (Nat.le_trans HB0.out.size HB1.out.size)))
    have HSZ : Hid (w.heap.size ≤ kb) := Lib.hid HKS.out
    go_wp2_with fail
    try rw [hsb]
    try rw [hW2]
    have k5 := ((HKL.out.set_ 0 (nV 0)).set_ 1 (nV 0)).set_ 2 (.bool false)
    have e0 := k5.cell 0
    have e1 := k5.cell 1
    have e2 := k5.cell 2
    simp at e0 e1 e2
    refine bodyPost_ret (v := .tuple #[loV 0 0 false, .bool false]) (by simp [results, Try.results9, go_sem, e0, e1, e2]) rfl ?_
    exact ⟨rfl, ((HBB.out.setCell (p := ⟨kb, 0, none⟩) HSZ.out _).setCell (p := ⟨kb, 1, none⟩) HSZ.out _).setCell (p := ⟨kb, 2, none⟩) HSZ.out _⟩
  · by_cases hn0 : n = 0
    · subst hn0
      go_enter Try.func9, Try.ntmps9
      go_wp2_with fail
      try rw [hW0]
      try rw [hkb]
      refine HS.out.mono ?_
      rintro e w1 ⟨rfl, hb1⟩
      have HB1 := Lib.hid hb1
      clear hb1
      obtain ⟨W2, hW2⟩ : ∃ W, w1.alloc (.cells #[ptr g, nV 0, .bool true] 59) = W := ⟨_, rfl⟩
      obtain ⟨sb, hsb⟩ : ∃ b, w1.heap.size = b := ⟨_, rfl⟩
      have HB2 : Hid (Below w1.heap.size w1 W2) := Lib.hid (by rw [← hW2]; exact (Below.refl _ _).alloc (Nat.le_refl _) _)
      have HK2 : Hid (Bk W2 sb 59 #[ptr g, nV 0, .bool true]) := Lib.hid (by rw [← hW2, ← hsb]; exact Bk.new _ _ _)
      have HKL := Lib.hid ((HK0.out.heap (HB1.out.block kb HK0.out.lt)).heap (HB2.out.block kb (Nat.lt_of_lt_of_le HK0.out.lt HB1.out.size)))
      have k0 := HKL.out
      have q0 := k0.cell 0
      have qf0 := k0.frozen 0
      have q1 := k0.cell 1
      have qf1 := k0.frozen 1
      have q2 := k0.cell 2
      have qf2 := k0.frozen 2
      simp at q0 q1 q2
      clear k0
      have k1 := HK2.out
      have s0 := k1.cell 0
      have s1 := k1.cell 1
      have s2 := k1.cell 2
      simp at s0 s1 s2
      clear k1
      have HBB := Lib.hid ((HB0.out.trans (HB1.out.mono HB0.out.size)).trans (HB2.out.mono (Nat.le_trans HB0.out.size HB1.out.size)))
      have HSZ : Hid (w.heap.size ≤ kb) := Lib.hid HKS.out
      go_wp2_with fail
      try rw [hsb]
      try rw [hW2]
      have k5 := ((HKL.out.set_ 0 (nV 0)).set_ 1 (nV 0)).set_ 2 (.bool false)
      have e0 := k5.cell 0
      have e1 := k5.cell 1
      have e2 := k5.cell 2
      simp at e0 e1 e2
      refine bodyPost_ret (v := .tuple #[loV 0 0 false, .bool false]) (by simp [results, Try.results9, go_sem, e0, e1, e2]) rfl ?_
      exact ⟨rfl, ((HBB.out.setCell (p := ⟨kb, 0, none⟩) HSZ.out _).setCell (p := ⟨kb, 1, none⟩) HSZ.out _).setCell (p := ⟨kb, 2, none⟩) HSZ.out _⟩
    · skip
      go_enter Try.func9, Try.ntmps9
      go_wp2_with fail
      try rw [hW0]
      try rw [hkb]
      refine HS.out.mono ?_
      rintro e w1 ⟨rfl, hb1⟩
      have HB1 := Lib.hid hb1
      clear hb1
      obtain ⟨W2, hW2⟩ : ∃ W, w1.alloc (.cells #[ptr g, nV n, .bool true] 59) = W := ⟨_, rfl⟩
      obtain ⟨sb, hsb⟩ : ∃ b, w1.heap.size = b := ⟨_, rfl⟩
      have HB2 : Hid (Below w1.heap.size w1 W2) := Lib.hid (by rw [← hW2]; exact (Below.refl _ _).alloc (Nat.le_refl _) _)
      have HK2 : Hid (Bk W2 sb 59 #[ptr g, nV n, .bool true]) := Lib.hid (by rw [← hW2, ← hsb]; exact Bk.new _ _ _)
      have HKL := Lib.hid ((HK0.out.heap (HB1.out.block kb HK0.out.lt)).heap (HB2.out.block kb (Nat.lt_of_lt_of_le HK0.out.lt HB1.out.size)))
      have k0 := HKL.out
      have q0 := k0.cell 0
      have qf0 := k0.frozen 0
      have q1 := k0.cell 1
      have qf1 := k0.frozen 1
      have q2 := k0.cell 2
      have qf2 := k0.frozen 2
      simp at q0 q1 q2
      clear k0
      have k1 := HK2.out
      have s0 := k1.cell 0
      have s1 := k1.cell 1
      have s2 := k1.cell 2
      simp at s0 s1 s2
      clear k1
      have HBB := Lib.hid ((HB0.out.trans (HB1.out.mono HB0.out.size)).trans (HB2.out.mono (Nat.le_trans HB0.out.size HB1.out.size)))
      have HSZ : Hid (w.heap.size ≤ kb) := Lib.hid HKS.out
      go_wp2_with fail
      try rw [hsb]
      try rw [hW2]
      have k5 := ((HKL.out.set_ 0 (nV 0)).set_ 1 (nV 0)).set_ 2 (.bool false)
      have e0 := k5.cell 0
      have e1 := k5.cell 1
      have e2 := k5.cell 2
      simp at e0 e1 e2
      refine bodyPost_ret (v := .tuple #[loV 0 0 false, .bool false]) (by simp [results, Try.results9, go_sem, e0, e1, e2]) rfl ?_
      exact ⟨rfl, ((HBB.out.setCell (p := ⟨kb, 0, none⟩) HSZ.out _).setCell (p := ⟨kb, 1, none⟩) HSZ.out _).setCell (p := ⟨kb, 2, none⟩) HSZ.out _⟩
inductive GiveS (R : Raw) (c now : Int) (g : Nat) (n : Int) (q : Row) : Raw → Value → Prop
  | next {x t : Int} {l : List (Int × Int)} (hl : q.line = (x, t) :: l) : GiveS R c now g n q (lendR { R with sm := upd R.sm c none, rows := upd R.rows g (some { q with line := l }) } g x n) (.tuple #[loV x n false, .bool true])
  | idle (hl : q.line = []) : GiveS R c now g n q { R with sm := upd R.sm c none, nm := upd R.nm n (some (g, -1, now)), rows := upd R.rows g (some { q with idle := insE (now, n) q.idle }) } (.tuple #[loV 0 0 false, .bool false])
theorem upd_upd {α β : Type} [DecidableEq α] (f : α → β) (a : α) (x y : β) : upd (upd f a x) a y = upd f a y := by
  funext z
  unfold upd
  split <;> rfl
set_option maxHeartbeats 8000000 in
theorem give_go (h : PL B w a N C R) (hN : N ≤ 900000) (c now : Int) (hc : I9 c) {g : Nat} {n : Int} (hs : R.sm c = some (g, n, false)) (hn : n ≠ 0) (hni : I9 n) {q : Row} (hq : R.rows g = some q) (hu : upE q.idle) (hl : q.idle.length ≤ 90000) (hli : ∀ p ∈ q.line, I9 p.1) :
    Calls Try.prog 9 #[ptr a, nV c, nV now] w fun e w' => ∃ R' r, e = .returned r ∧ PL B w' a (N + 3) C R' ∧ Fr B w w' ∧ GiveS R c now g n q R' r := by
  obtain ⟨W0, hW0⟩ : ∃ W, w.alloc (.cells #[nV 0, nV 0, .bool false] 30) = W := ⟨_, rfl⟩
  obtain ⟨kb, hkb⟩ : ∃ b, w.heap.size = b := ⟨_, rfl⟩
  have HB0 : Hid (Below w.heap.size w W0) := Lib.hid (by rw [← hW0]; exact (Below.refl _ _).alloc (Nat.le_refl _) _)
  have HK0 : Hid (Bk W0 kb 30 #[nV 0, nV 0, .bool false]) := Lib.hid (by rw [← hW0, ← hkb]; exact Bk.new _ _ _)
  have HKS : Hid (w.heap.size ≤ kb) := Lib.hid (Nat.le_of_eq hkb)
  have HS := Lib.hid (sits_any (h.below HB0.out) c hc)
  rw [hs] at HS
  simp only [seO, Option.isSome_some] at HS
  have HH := Lib.hid h
  have HC := Lib.hid hc
  have HNI := Lib.hid hni
  have HQ := Lib.hid hq
  have HU := Lib.hid hu
  have HLL := Lib.hid hl
  have HLI := Lib.hid hli
  have HN := Lib.hid hN
  have HBW := Lib.hid h.le
  have hn0 : ¬ n = 0 := hn
  clear h hc hs hn hni hq hu hl hli hN
  go_enter Try.func9, Try.ntmps9
  go_wp2_with fail
  try rw [hW0]
  try rw [hkb]
  refine HS.out.mono ?_
  rintro e w1 ⟨rfl, hb1⟩
  have HB1 := Lib.hid hb1
  clear hb1
  obtain ⟨W2, hW2⟩ : ∃ W, w1.alloc (.cells #[ptr g, nV n, .bool false] 59) = W := ⟨_, rfl⟩
  obtain ⟨sb, hsb⟩ : ∃ b, w1.heap.size = b := ⟨_, rfl⟩
  have HB2 : Hid (Below w1.heap.size w1 W2) := Lib.hid (by rw [← hW2]; exact (Below.refl _ _).alloc (Nat.le_refl _) _)
  have HK2 : Hid (Bk W2 sb 59 #[ptr g, nV n, .bool false]) := Lib.hid (by rw [← hW2, ← hsb]; exact Bk.new _ _ _)
  have k9 := HK2.out
  have v0 := k9.cell 0
  have vf0 := k9.frozen 0
  have v1 := k9.cell 1
  have vf1 := k9.frozen 1
  have v2 := k9.cell 2
  have vf2 := k9.frozen 2
  simp at v0 v1 v2
  obtain ⟨W9, hW9⟩ : ∃ W, W2.setCell ⟨sb, 2, none⟩ (.bool false) = W := ⟨_, rfl⟩
  have HB2 : Hid (Below w1.heap.size w1 W9) := Lib.hid (by rw [← hW9]; exact HB2.out.setCell (p := ⟨sb, 2, none⟩) (by show w1.heap.size ≤ sb; omega) _)
  have HK2 : Hid (Bk W9 sb 59 #[ptr g, nV n, .bool false]) := Lib.hid (by rw [← hW9]; exact k9.set_ 2 _)
  clear k9
  have HKL := Lib.hid ((HK0.out.heap (HB1.out.block kb HK0.out.lt)).heap (HB2.out.block kb (Nat.lt_of_lt_of_le HK0.out.lt HB1.out.size)))
  have k0 := HK2.out
  have s0 := k0.cell 0
  have s1 := k0.cell 1
  have s2 := k0.cell 2
  simp at s0 s1 s2
  clear k0
  have HBB := Lib.hid ((HB0.out.trans (HB1.out.mono HB0.out.size)).trans (HB2.out.mono (Nat.le_trans HB0.out.size HB1.out.size)))
  have HSZ : Hid (w.heap.size ≤ kb) := Lib.hid HKS.out
  have HF2 := Lib.hid (HH.out.fr HBB.out)
  obtain ⟨M, hp⟩ := HH.out.below HBB.out
  have HP2 := Lib.hid hp
  obtain ⟨_, _, _, _, _, _, _, _, c8, _⟩ := hp.cells
  have HKC := Lib.hid (keyI c HC.out)
  clear hp
  go_wp2_with (at_delete; (refine MV.wpList_del rfl _ _ 50 rfl 59 iK Try.underlying50 rfl HP2.out.ms _ _ rfl HKC.out ?_); (intro w3 hm3 ht3; (obtain ⟨hp3, hf3⟩ := HP2.out.putS (Nat.le_refl N) c none hm3 ht3); have HP3 := Lib.hid hp3; have HF3 := Lib.hid (HF2.out.trans hf3); have HKL3 := Lib.hid (hf3.kt.bk HKL.out); have HKS3 := Lib.hid (hf3.kt.bk HK2.out); (have s0 := HKS3.out.cell 0); (have s1 := HKS3.out.cell 1); (simp at s0 s1); (have x3 := (hp3.row g q HQ.out).cells.2.2.2); clear hm3 ht3 hp3 hf3 c8))
  have HFI := Lib.hid (first_row (HP3.out.row g q HQ.out))
  cases hline : q.line with
  | nil =>
    rw [hline] at HFI
    simp only [firstS] at HFI
    have HLN := Lib.hid hline
    clear hline
    refine HFI.out.mono ?_
    rintro e w4 ⟨rfl, ht4⟩
    obtain ⟨⟨M4, hp4⟩, hf4⟩ := HP3.out.turn HQ.out ht4
    have HP4 := Lib.hid hp4
    have HF4 := Lib.hid (HF3.out.trans hf4)
    have HKL4 := Lib.hid (hf4.kt.bk HKL3.out)
    have HKS4 := Lib.hid (hf4.kt.bk HKS3.out)
    have s0 := HKS4.out.cell 0
    have s1 := HKS4.out.cell 1
    simp at s0 s1
    obtain ⟨_, _, _, _, _, _, _, _, _, c9⟩ := hp4.cells
    have hu4 := hp4.below (w' := w4.drew) (Below.refl _ _).drew
    obtain ⟨w5, hrun, hm5, ht5⟩ := hu4.mn.put iK Try.underlying51 (by have := HN.out; unfold maxLen; omega) (keyI n HNI.out) (lkV (g, -1, now))
    obtain ⟨hp5, hf5⟩ := hu4.putL (Nat.le_succ N) n (some (g, -1, now)) hm5 ht5
    have hr5 := hp5.row g { q with line := [] } (upd_at _ _ _)
    have HLA := Lib.hid (lay_any hr5 HU.out (by have := HLL.out; show q.idle.length ≤ 100000; omega) (now, n))
    have HP5 := Lib.hid hp5
    have HF5 := Lib.hid ((HF4.out.trans (Fr.below (Below.refl _ _).drew hp4.le)).trans hf5)
    have HKL5 := Lib.hid (hf5.kt.bk (show Bk w4.drew kb 30 #[nV 0, nV 0, .bool false] from HKL4.out))
    have hks5 := hf5.kt.bk (show Bk w4.drew sb 59 #[ptr g, nV n, .bool false] from HKS4.out)
    have t0 := hks5.cell 0
    have t1 := hks5.cell 1
    simp at t0 t1
    clear ht4 hp4 hf4 hu4 hm5 ht5 hp5 hf5 hr5 hks5
    go_wp2_with fail
    go_region
    go_wp2_with fail
    refine HLA.out.mono ?_
    rintro e w6 ⟨rfl, ht6⟩
    obtain ⟨⟨M6, hp6⟩, hf6⟩ := HP5.out.turn (upd_at _ _ _) ht6
    have HP := Lib.hid (show PL B w6 a (N + 1) C { R with sm := upd R.sm c none, nm := upd R.nm n (some (g, -1, now)), rows := upd R.rows g (some { q with idle := insE (now, n) q.idle }) } from ⟨M6, by
      have h9 := hp6
      simp only [upd_upd] at h9
      have e9 : ({ name := q.name, conns := q.conns, idle := insE (now, n) q.idle, line := [] } : Row) = { q with idle := insE (now, n) q.idle } := by rw [← HLN.out]
      rw [← e9]
      exact h9⟩)
    have HF := Lib.hid (HF5.out.trans hf6)
    have k3 := hf6.kt.bk HKL5.out
    have K3 := Lib.hid k3
    have q0 := k3.cell 0
    have qf0 := k3.frozen 0
    have q1 := k3.cell 1
    have qf1 := k3.frozen 1
    have q2 := k3.cell 2
    have qf2 := k3.frozen 2
    simp at q0 q1 q2
    have HGS := Lib.hid (GiveS.idle (R := R) (c := c) (now := now) (g := g) (n := n) HLN.out)
    clear ht6 hp6 hf6 k3
    go_wp2
    have k5 := ((K3.out.set_ 0 (nV 0)).set_ 1 (nV 0)).set_ 2 (.bool false)
    have e0 := k5.cell 0
    have e1 := k5.cell 1
    have e2 := k5.cell 2
    simp at e0 e1 e2
    refine bodyPost_ret (v := .tuple #[.agg #[nV 0, nV 0, .bool false], .bool false]) (by simp [results, Try.results9, go_sem, e0, e1, e2]) rfl ?_
    have hr := PL.cell3 HP.out HF.out HSZ.out HBW.out K3.out (nV 0) (nV 0) (.bool false)
    exact ⟨_, _, rfl, hr.1.mono (by omega), hr.2, HGS.out⟩
  | cons xt l =>
    obtain ⟨x, t⟩ := xt
    rw [hline] at HFI
    simp only [firstS] at HFI
    have HLN := Lib.hid hline
    have HXI : Hid (I9 x) := Lib.hid (HLI.out (x, t) (by rw [hline]; simp))
    clear hline
    refine HFI.out.mono ?_
    rintro e w4 ⟨rfl, ht4⟩
    obtain ⟨⟨M4, hp4⟩, hf4⟩ := HP3.out.turn HQ.out ht4
    have HF4 := Lib.hid (HF3.out.trans hf4)
    have HKL4 := Lib.hid (hf4.kt.bk HKL3.out)
    have HKS4 := Lib.hid (hf4.kt.bk HKS3.out)
    have s0 := HKS4.out.cell 0
    have s1 := HKS4.out.cell 1
    simp at s0 s1
    have HLE := Lib.hid (lend_any (show PL B w4 a N C { R with sm := upd R.sm c none, rows := upd R.rows g (some { q with line := l }) } from ⟨M4, hp4⟩) (by have := HN.out; omega) g x n HXI.out HNI.out false)
    clear ht4 hp4 hf4
    go_wp2_with fail
    refine HLE.out.mono ?_
    rintro e w5 ⟨rfl, hp5, hf5⟩
    have HP := Lib.hid (hp5.mono (show N + 2 ≤ N + 3 by omega))
    have HF := Lib.hid (HF4.out.trans hf5)
    have k3 := hf5.kt.bk HKL4.out
    have K3 := Lib.hid k3
    have q0 := k3.cell 0
    have qf0 := k3.frozen 0
    have q1 := k3.cell 1
    have qf1 := k3.frozen 1
    have q2 := k3.cell 2
    have qf2 := k3.frozen 2
    simp at q0 q1 q2
    have HGS := Lib.hid (GiveS.next (R := R) (c := c) (now := now) (g := g) (n := n) HLN.out)
    clear hp5 hf5 k3
    go_wp2
    have k5 := ((K3.out.set_ 0 (nV x)).set_ 1 (nV n)).set_ 2 (.bool false)
    have e0 := k5.cell 0
    have e1 := k5.cell 1
    have e2 := k5.cell 2
    simp at e0 e1 e2
    refine bodyPost_ret (v := .tuple #[.agg #[nV x, nV n, .bool false], .bool true]) (by simp [results, Try.results9, go_sem, e0, e1, e2]) rfl ?_
    have hr := PL.cell3 HP.out HF.out HSZ.out HBW.out K3.out (nV x) (nV n) (.bool false)
    exact ⟨_, _, rfl, hr.1.mono (by omega), hr.2, HGS.out⟩
end
end Go.Proofs.Ytochjbmighijgaa.PO
