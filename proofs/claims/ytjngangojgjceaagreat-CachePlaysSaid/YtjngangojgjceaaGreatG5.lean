/- What package slru's laid, made, New and add make. Conditions: how long the key is, that it is new, that there is room.
   What package slru's add makes of a store. Conditions: how long the key is, that it is new, that there is room.
   What package slru's makeRoom does to a store. Condition: that the bytes wanted are at most the budget. -/
import Derived.Test.YtjngangojgjceaaGreatG4
import Derived.Test.YtjngangojgjceaaGreatShelf
import Derived.Deep.LoopGhost
import Derived.Deep.AppendLies
import Derived.Deep.RegionWith
set_option linter.unusedSimpArgs false
set_option linter.unusedVariables false
namespace Go.Proofs.YtjngangojgjceaaGreat.SL
open Go.ChangeShapes Go.WideShapes Go.ChangeAt Go.RowKit Go.Maps Go.ChangeMaps
set_option maxRecDepth 100000
set_option linter.unusedVariables false
set_option linter.unusedSimpArgs false

def endN (p : Nat) : Nd := ⟨ByteArray.empty, 0, 0, some p, some p⟩
def LaidP (w : World) (e : Ending) (w' : World) : Prop := ∃ p, e = .returned (.agg #[ptr p, .int .i64 0]) ∧ Bk w' p 148 (pc (endN p)) ∧ w.heap.size ≤ p ∧ Below w.heap.size w w'
theorem Bk.new1 (w : World) (o : Obj) (t : TypeId) (cs : Array Value) : Bk ((w.alloc o).alloc (.cells cs t)) (w.heap.size + 1) t cs := by
  have := Bk.new (w.alloc o) t cs
  rw [show (w.alloc o).heap.size = w.heap.size + 1 by simp] at this
  exact this
set_option maxHeartbeats 1000000 in
theorem laid_any (w : World) : Calls Tryz.prog 100 #[] w (LaidP w) := by
  go_enter Tryz.func100, Tryz.ntmps100
  go_wp2
  refine bodyPost_ret (v := .agg #[ptr (w.heap.size + 1), .int .i64 0]) (by simp [results, Tryz.results100, go_sem]) rfl ⟨w.heap.size + 1, rfl, ?_, by omega, ?_⟩
  · exact Bk.new1 _ _ _ _
  · exact ((Below.refl _ _).alloc (Nat.le_refl _) _).alloc (by simp) _
theorem Bk.below {w w' : World} {g : Nat} {t : TypeId} {cs : Array Value} (h : Bk w g t cs) (hb : Below w.heap.size w w') : Bk w' g t cs := (hb.block g h.lt).trans h
theorem MapP.below {w w' : World} {b n : Nat} {f : ByteArray → Option Nat} (h : MapP w b n f) (hb : Below w.heap.size w w') : MapP w' b n f := h.keep (hb.block b h.lt)
def MadeP (al ke mo : Int) (w : World) (e : Ending) (w' : World) : Prop :=
  ∃ g x, e = .returned (ptr g) ∧ St w' g 0 al ke mo x ∧ x.tE = [] ∧ x.kE = [] ∧ (∀ b, x.own g b → w.heap.size ≤ b) ∧ Below w.heap.size w w'
theorem made_st {w' : World} {g mb p0 p1 : Nat} {al ke mo : Int} (hg : Bk w' g 124 (cel g al ke mo p0 p1 mb 0 0)) (h0 : Bk w' p0 148 (pc (endN p0))) (h1 : Bk w' p1 148 (pc (endN p1))) (hm : MapP w' mb 0 fun _ => none) (hne : p0 ≠ p1) :
    St w' g 0 al ke mo ⟨p0, p1, mb, [], [], endN, fun _ => none⟩ :=
  ⟨hg, fun b hb => by
    rcases hb with rfl | rfl | hb | hb
    · exact h0
    · exact h1
    · simp at hb
    · simp at hb,
   ⟨⟨rfl, rfl, trivial⟩, ⟨rfl, rfl, trivial⟩, by simp, by simp, fun b hb hc => by
      rcases hb with rfl | hb
      · rcases hc with hc | hc
        · exact hne hc
        · simp at hc
      · simp at hb, ⟨rfl, rfl⟩, ⟨rfl, rfl⟩, fun b hb => by simp at hb, fun b hb => by simp at hb, fun b hb => by simp at hb, fun b c hb => by simp at hb⟩,
   hm, fun k b => by simp, by simp [Sx.tE, Sx.kE, en, sumE], by omega⟩
set_option maxHeartbeats 2000000 in
theorem made_any (al ke mo : Int) (w : World) : Calls Tryz.prog 62 #[.int .i64 al, .int .i64 ke, .int .i64 mo] w (MadeP al ke mo w) := by
  have hmm := @run_makeMap Tryz.prog
  go_enter Tryz.func62, Tryz.ntmps62
  go_wp2_with fail
  obtain ⟨W2, hW2⟩ : ∃ W2, (w.alloc (.map #[] 0)).alloc (.cells #[ptr (w.heap.size + 1), .int .i64 al, .int .i64 ke, .int .i64 mo, .pointer none, .int .i64 0, .pointer none, .int .i64 0, .map (some w.heap.size)] 124) = W2 := ⟨_, rfl⟩
  have k2 : Bk W2 (w.heap.size + 1) 124 #[ptr (w.heap.size + 1), .int .i64 al, .int .i64 ke, .int .i64 mo, .pointer none, .int .i64 0, .pointer none, .int .i64 0, .map (some w.heap.size)] := by rw [← hW2]; exact Bk.new1 _ _ _ _
  have m2 : MapP W2 w.heap.size 0 fun _ => none := by rw [← hW2]; exact (MapP.made w).keep (Below.heap_alloc _ _ _ (by simp))
  have b2 : Below w.heap.size w W2 := by rw [← hW2]; exact ((Below.refl _ _).alloc (Nat.le_refl _) _).alloc (by simp) _
  have s2 : W2.heap.size = w.heap.size + 2 := by rw [← hW2]; simp
  rw [hW2]
  have K2 := Lib.hid k2
  have M2 := Lib.hid m2
  have B2 := Lib.hid b2
  have S2 := Lib.hid s2
  clear hW2 k2 m2 b2 s2
  refine (laid_any _).mono ?_
  rintro e w3 ⟨p0, rfl, hp0, hl0, hb3⟩
  have K3 := Lib.hid (K2.out.below hb3)
  have M3 := Lib.hid (M2.out.below hb3)
  have B3 := Lib.hid (B2.out.trans (hb3.mono B2.out.size))
  have P0 := Lib.hid hp0
  have L01 := Lib.hid hp0.lt
  have L0 := Lib.hid hl0
  have S3 := Lib.hid (show W2.heap.size ≤ w3.heap.size from hb3.size)
  clear hp0 hl0 hb3
  go_wp2_with fail
  refine (laid_any _).mono ?_
  rintro e w4 ⟨p1, rfl, hp1, hl1, hb4⟩
  have K4 := Lib.hid (K3.out.below hb4)
  have M4 := Lib.hid (M3.out.below hb4)
  have B4 := Lib.hid (B3.out.trans (hb4.mono B3.out.size))
  have P0 := Lib.hid (P0.out.below hb4)
  have P1 := Lib.hid hp1
  have L1 := Lib.hid hl1
  have f4 := K4.out.frozen
  have c4 : ∀ i, w4.cell? ⟨w.heap.size + 1, i, none⟩ = _ := fun i => K4.out.cell i
  have q4 : w4.cell? ⟨w.heap.size + 1, 4, none⟩ = some (.pointer none) := c4 4
  have q5 : w4.cell? ⟨w.heap.size + 1, 5, none⟩ = some (.int .i64 0) := c4 5
  have q6 : w4.cell? ⟨w.heap.size + 1, 6, none⟩ = some (.pointer none) := c4 6
  have q7 : w4.cell? ⟨w.heap.size + 1, 7, none⟩ = some (.int .i64 0) := c4 7
  have g4 := f4 4
  have g5 := f4 5
  have g6 := f4 6
  have g7 := f4 7
  clear hp1 hl1 hb4 f4 c4
  go_wp2
  go_ret
  have hs2 := S2.out
  have hl0 := L0.out
  have hl1 := L1.out
  have hl01 := L01.out
  have hs3 := S3.out
  have n0 : p0 ≠ w.heap.size + 1 := by omega
  have n1 : p1 ≠ w.heap.size + 1 := by omega
  have n01 : p0 ≠ p1 := by omega
  refine ⟨w.heap.size + 1, ⟨p0, p1, w.heap.size, [], [], endN, fun _ => none⟩, rfl, made_st ((((K4.out.set_ 4 _).set_ 5 _).set_ 6 _).set_ 7 _) ((((P0.out.far n0 _).far n0 _).far n0 _).far n0 _) ((((P1.out.far n1 _).far n1 _).far n1 _).far n1 _) ?_ n01, rfl, rfl, ?_, ?_⟩
  · exact M4.out.keep (by simp [World.setCell, Array.getElem?_modify])
  · intro b hb
    rcases hb with rfl | rfl | rfl | rfl | hb | hb
    · omega
    · exact Nat.le_refl _
    · show w.heap.size ≤ b; omega
    · show w.heap.size ≤ b; omega
    · simp at hb
    · simp at hb
  · exact (((B4.out.setCell (p := ⟨w.heap.size + 1, 4, none⟩) (by simp) _).setCell (p := ⟨w.heap.size + 1, 5, none⟩) (by simp) _).setCell (p := ⟨w.heap.size + 1, 6, none⟩) (by simp) _).setCell (p := ⟨w.heap.size + 1, 7, none⟩) (by simp) _
/-- can these be budgets? -/
def okB (al ke mo : Int) : Prop := 1 ≤ al ∧ al ≤ 1073741824 ∧ 0 ≤ ke ∧ ke ≤ al ∧ 1 ≤ mo ∧ mo ≤ al
def NewP (al ke mo : Int) (w : World) (e : Ending) (w' : World) : Prop :=
  ∃ g x, e = .returned (.tuple #[ptr g, .int .i64 0]) ∧ St w' g 0 al ke mo x ∧ x.tE = [] ∧ x.kE = [] ∧ (∀ b, x.own g b → w.heap.size ≤ b) ∧ Below w.heap.size w w'
set_option maxHeartbeats 1000000 in
theorem new_yes (al ke mo : Int) (w : World) (h : okB al ke mo) : Calls Tryz.prog 26 #[.int .i64 al, .int .i64 ke, .int .i64 mo] w (NewP al ke mo w) := by
  obtain ⟨h1, h2, h3, h4, h5, h6⟩ := h
  have a1 : decide (al < 1) = false := by simp; omega
  have a2 : decide (1073741824 < al) = false := by simp; omega
  have a3 : decide (ke < 0) = false := by simp; omega
  have a4 : decide (al < ke) = false := by simp; omega
  have a5 : decide (mo < 1) = false := by simp; omega
  have a6 : decide (al < mo) = false := by simp; omega
  have HM := Lib.hid (made_any al ke mo w)
  clear h1 h2 h3 h4 h5 h6
  go_enter Tryz.func26, Tryz.ntmps26
  go_wp2_with (go_at_call 62; refine HM.out.mono ?_; rintro e w' ⟨g, x, rfl, h1, h2, h3, h4, h5⟩)
  go_ret2
  exact ⟨g, x, rfl, h1, h2, h3, h4, h5⟩
set_option maxHeartbeats 2000000 in
theorem new_no (al ke mo : Int) (w : World) (h : ¬ okB al ke mo) : Calls Tryz.prog 26 #[.int .i64 al, .int .i64 ke, .int .i64 mo] w fun e w' => e = .returned (.tuple #[.pointer none, .int .i64 1]) ∧ w = w' := by
  by_cases c0 : al < 1
  · have b0 : decide (al < 1) = true := decide_eq_true c0
    clear h c0
    go_enter Tryz.func26, Tryz.ntmps26
    go_wp2
    go_ret2
    exact ⟨rfl, rfl⟩
  have a0 : decide (al < 1) = false := decide_eq_false c0
  by_cases c1 : 1073741824 < al
  · have b1 : decide (1073741824 < al) = true := decide_eq_true c1
    clear h c0 c1
    go_enter Tryz.func26, Tryz.ntmps26
    go_wp2
    go_ret2
    exact ⟨rfl, rfl⟩
  have a1 : decide (1073741824 < al) = false := decide_eq_false c1
  by_cases c2 : ke < 0
  · have b2 : decide (ke < 0) = true := decide_eq_true c2
    clear h c0 c1 c2
    go_enter Tryz.func26, Tryz.ntmps26
    go_wp2
    go_ret2
    exact ⟨rfl, rfl⟩
  have a2 : decide (ke < 0) = false := decide_eq_false c2
  by_cases c3 : al < ke
  · have b3 : decide (al < ke) = true := decide_eq_true c3
    clear h c0 c1 c2 c3
    go_enter Tryz.func26, Tryz.ntmps26
    go_wp2
    go_ret2
    exact ⟨rfl, rfl⟩
  have a3 : decide (al < ke) = false := decide_eq_false c3
  by_cases c4 : mo < 1
  · have b4 : decide (mo < 1) = true := decide_eq_true c4
    clear h c0 c1 c2 c3 c4
    go_enter Tryz.func26, Tryz.ntmps26
    go_wp2
    go_ret2
    exact ⟨rfl, rfl⟩
  have a4 : decide (mo < 1) = false := decide_eq_false c4
  by_cases c5 : al < mo
  · have b5 : decide (al < mo) = true := decide_eq_true c5
    clear h c0 c1 c2 c3 c4 c5
    go_enter Tryz.func26, Tryz.ntmps26
    go_wp2
    go_ret2
    exact ⟨rfl, rfl⟩
  have a5 : decide (al < mo) = false := decide_eq_false c5
  exact absurd ⟨by omega, by omega, by omega, by omega, by omega, by omega⟩ h
end Go.Proofs.YtjngangojgjceaaGreat.SL
namespace Go.Proofs.YtjngangojgjceaaGreat.SL
open Go.ChangeShapes Go.WideShapes Go.ChangeAt Go.RowKit Go.Maps Go.ChangeMaps
set_option maxRecDepth 100000
set_option linter.unusedVariables false
set_option linter.unusedSimpArgs false

/-- what a step that makes memory makes of a store -/
def StepN (g n n' : Nat) (al ke mo : Int) (x : Sx) (T K : List En) (w w' : World) : Prop :=
  ∃ x', St w' g n' al ke mo x' ∧ x'.tE = T ∧ x'.kE = K ∧ (∀ y, x'.own g y → x.own g y ∨ w.heap.size ≤ y) ∧ Chg (x.own g) w w'
theorem StepP.n {g n : Nat} {al ke mo : Int} {x : Sx} {T K : List En} {w w' : World} (h : StepP g n al ke mo x T K (x.own g) w w') : StepN g n n al ke mo x T K w w' := by
  obtain ⟨x', h1, h2, h3, h4, h5, _⟩ := h
  exact ⟨x', h1, h2, h3, fun y hy => .inl (h4 y hy), h5⟩
/-- the world in which a new entry's block has been made -/
abbrev addW (w : World) (k : ByteArray) (z s : Int) : World := (w.alloc (.cells #[.string k, .int .i64 z] 127)).alloc (.cells #[.string k, .int .i64 z, .int .i64 s, .pointer none, .pointer none] 148)
theorem addW_bel (w : World) (k : ByteArray) (z s : Int) : Below w.heap.size w (addW w k z s) := ((Below.refl _ _).alloc (Nat.le_refl _) _).alloc (by simp) _
theorem add_md {w : World} {g n : Nat} {al ke mo : Int} {x : Sx} (h : St w g n al ke mo x) {k : ByteArray} (hf : x.f k = none) {z : Int} (s : Int) (hz : 1 ≤ z) (hl : sumE x.tE + sumE x.kE + z ≤ 1073741824) :
    Md (addW w k z s) g al ke mo ⟨x.e0, x.e1, x.mb, x.T, x.K, upA x.F (w.heap.size + 1) ⟨k, z, s, none, none⟩, x.f⟩ (w.heap.size + 1) := by
  have hp : ∀ b, x.nd b → b ≠ w.heap.size + 1 := fun b hb e => by have := h.lt (.inr (.inr hb)); omega
  have hF : ∀ b, x.nd b → upA x.F (w.heap.size + 1) ⟨k, z, s, none, none⟩ b = x.F b := fun b hb => by unfold upA; rw [if_neg (hp b hb)]
  have hq : upA x.F (w.heap.size + 1) ⟨k, z, s, none, none⟩ (w.heap.size + 1) = ⟨k, z, s, none, none⟩ := by unfold upA; rw [if_pos rfl]
  have eT : en (upA x.F (w.heap.size + 1) ⟨k, z, s, none, none⟩) x.T = x.tE := en_congr fun b hb => by rw [hF b (.inr (.inr (.inl hb)))]; exact ⟨rfl, rfl⟩
  have eK : en (upA x.F (w.heap.size + 1) ⟨k, z, s, none, none⟩) x.K = x.kE := en_congr fun b hb => by rw [hF b (.inr (.inr (.inr hb)))]; exact ⟨rfl, rfl⟩
  refine ⟨?_, ?_, h.gg.other fun b hb => hF b hb, fun hb => hp _ hb rfl, ?_, ?_, ?_⟩
  · show Bk _ g _ (cel g al ke mo x.e0 x.e1 x.mb (sumE (en (upA x.F (w.heap.size + 1) ⟨k, z, s, none, none⟩) x.T)) (sumE (en (upA x.F (w.heap.size + 1) ⟨k, z, s, none, none⟩) x.K)))
    rw [eT, eK]
    exact h.bk.below (addW_bel w k z s)
  · intro b hb
    rcases hb with hb | rfl
    · show Bk _ b _ (pc (upA x.F (w.heap.size + 1) ⟨k, z, s, none, none⟩ b))
      rw [hF b hb]
      exact (h.nn b hb).below (addW_bel w k z s)
    · show Bk _ _ _ (pc (upA x.F (w.heap.size + 1) ⟨k, z, s, none, none⟩ (w.heap.size + 1)))
      rw [hq]
      exact Bk.new1 _ _ _ _
  · show 1 ≤ (upA x.F (w.heap.size + 1) ⟨k, z, s, none, none⟩ (w.heap.size + 1)).z
    rw [hq]; exact hz
  · intro b hb
    show (upA x.F (w.heap.size + 1) ⟨k, z, s, none, none⟩ b).k ≠ (upA x.F (w.heap.size + 1) ⟨k, z, s, none, none⟩ (w.heap.size + 1)).k
    rw [hq, hF b (.inr (.inr hb))]
    exact (h.none_ hf).1 b hb
  · show sumE (en (upA x.F (w.heap.size + 1) ⟨k, z, s, none, none⟩) x.T) + sumE (en (upA x.F (w.heap.size + 1) ⟨k, z, s, none, none⟩) x.K) + (upA x.F (w.heap.size + 1) ⟨k, z, s, none, none⟩ (w.heap.size + 1)).z ≤ 1073741824
    rw [eT, eK, hq]; exact hl
theorem add_stT {w w3 w4 : World} {g n : Nat} {al ke mo : Int} {x : Sx} (h : St w g n al ke mo x) {k : ByteArray} (hf : x.f k = none) {z : Int} (hz : 1 ≤ z) (hl : sumE x.tE + sumE x.kE + z ≤ 1073741824) (hn : n < 1099511627776) {e : Ending}
    (hen : EnPT g al ke mo ⟨x.e0, x.e1, x.mb, x.T, x.K, upA x.F (w.heap.size + 1) ⟨k, z, 0, none, none⟩, x.f⟩ (w.heap.size + 1) (addW w k z 0) e w3)
    (hm : MapP w4 x.mb (n + 1) fun y => if y = k then some (w.heap.size + 1) else x.f y) (hgr : w3.grownBy w4 (some x.mb)) : StepN g n (n + 1) al ke mo x ((k, z) :: x.tE) (x.kE) w w4 := by
  obtain ⟨_, F', q1, q2, q3, q4, q5, q6⟩ := hen
  have hp : ∀ b, x.nd b → b ≠ w.heap.size + 1 := fun b hb e => by have := h.lt (.inr (.inr hb)); omega
  have hq : upA x.F (w.heap.size + 1) ⟨k, z, 0, none, none⟩ (w.heap.size + 1) = ⟨k, z, 0, none, none⟩ := by unfold upA; rw [if_pos rfl]
  have hF1 : (F' (w.heap.size + 1)).k = k := by rw [(q3 _).1]; show (upA x.F (w.heap.size + 1) ⟨k, z, 0, none, none⟩ (w.heap.size + 1)).k = k; rw [hq]
  have hF2 : (F' (w.heap.size + 1)).z = z := by rw [(q3 _).2]; show (upA x.F (w.heap.size + 1) ⟨k, z, 0, none, none⟩ (w.heap.size + 1)).z = z; rw [hq]
  have hF0 : ∀ b, x.nd b → upA x.F (w.heap.size + 1) ⟨k, z, 0, none, none⟩ b = x.F b := fun b hb => by unfold upA; rw [if_neg (hp b hb)]
  have hF : ∀ b, x.nd b → (F' b).k = (x.F b).k ∧ (F' b).z = (x.F b).z := fun b hb => by
    rw [(q3 b).1, (q3 b).2]
    show (upA x.F (w.heap.size + 1) ⟨k, z, 0, none, none⟩ b).k = _ ∧ (upA x.F (w.heap.size + 1) ⟨k, z, 0, none, none⟩ b).z = _
    rw [hF0 b hb]; exact ⟨rfl, rfl⟩
  have eT : en F' x.T = x.tE := en_congr fun b hb => hF b (.inr (.inr (.inl hb)))
  have eK : en F' x.K = x.kE := en_congr fun b hb => hF b (.inr (.inr (.inr hb)))
  have hbel := addW_bel w k z 0
  have hnm := h.nm
  have hT : en F' ((w.heap.size + 1) :: x.T) = (k, z) :: x.tE := by show ((F' (w.heap.size + 1)).k, (F' (w.heap.size + 1)).z) :: en F' x.T = _; rw [hF1, hF2, eT]
  have hK : en F' x.K = x.kE := by exact eK
  have hsz : w3.heap.size = w.heap.size + 2 := by rw [q6]; simp
  have hne : ∀ b, (x.nd b ∨ b = w.heap.size + 1) → some b ≠ some x.mb := fun b hb e => by
    injection e with e
    rcases hb with hb | hb
    · exact hnm.1 (by rw [← e]; exact hb)
    · have := h.mp.lt; omega
  have hC : Chg (x.own g) w w4 := ((Chg.of_below hbel).trans' q5 fun b hb hs => by
    rcases hs with hs | hs | hs
    · exact .inl hs
    · exact .inr (.inr hs)
    · omega).grown hgr fun b hb _ => by injection hb with hb; exact .inr (.inl hb.symm)
  refine ⟨⟨x.e0, x.e1, x.mb, ((w.heap.size + 1) :: x.T), x.K, F', fun y => if y = k then some (w.heap.size + 1) else x.f y⟩, ⟨?_, fun y hy => ?_, q2, hm, fun q d => ?_, ?_, by omega⟩, hT, hK, fun y hy => ?_, hC⟩
  · show Bk w4 g _ (cel g al ke mo x.e0 x.e1 x.mb (sumE (en F' ((w.heap.size + 1) :: x.T))) (sumE (en F' x.K)))
    refine Bk.heap (w := w3) ?_ (hgr.block g (by have := h.bk.lt; omega) (fun e => hnm.2 (by injection e with e)))
    rw [hT, hK]
    have hb2 := q4
    have e5 : en (upA x.F (w.heap.size + 1) ⟨k, z, 0, none, none⟩) x.T = x.tE := en_congr fun b hb => by rw [hF0 b (.inr (.inr (.inl hb)))]; exact ⟨rfl, rfl⟩
    have e6 : en (upA x.F (w.heap.size + 1) ⟨k, z, 0, none, none⟩) x.K = x.kE := en_congr fun b hb => by rw [hF0 b (.inr (.inr (.inr hb)))]; exact ⟨rfl, rfl⟩
    have e9 : sumE ((k, z) :: x.tE) = sumE x.tE + z := by rw [sumE]; exact Int.add_comm _ _
    rw [e9]
    have hb3 : Bk w3 g 124 (cel g al ke mo x.e0 x.e1 x.mb (sumE (en (upA x.F (w.heap.size + 1) ⟨k, z, 0, none, none⟩) x.T) + (upA x.F (w.heap.size + 1) ⟨k, z, 0, none, none⟩ (w.heap.size + 1)).z) (sumE (en (upA x.F (w.heap.size + 1) ⟨k, z, 0, none, none⟩) x.K))) := hb2
    rw [e5, e6, hq] at hb3
    exact hb3
  · have hy2 : x.nd y ∨ y = w.heap.size + 1 := by
      rcases hy with hy | hy | hy | hy
      · exact .inl (.inl hy)
      · exact .inl (.inr (.inl hy))
      · rcases List.mem_cons.1 hy with hy | hy
        · exact .inr hy
        · exact .inl (.inr (.inr (.inl hy)))
      · exact .inl (.inr (.inr (.inr hy)))
    exact (q1 y hy2).heap (hgr.block y (by
      rcases hy2 with hy2 | hy2
      · have := h.lt (.inr (.inr hy2)); omega
      · omega) (hne y hy2))
  · show (if q = k then some (w.heap.size + 1) else x.f q) = some d ↔ (d ∈ ((w.heap.size + 1) :: x.T) ∨ d ∈ x.K) ∧ (F' d).k = q
    have hmem : ∀ d, (d ∈ ((w.heap.size + 1) :: x.T) ∨ d ∈ x.K) → d = w.heap.size + 1 ∨ (d ∈ x.T ∨ d ∈ x.K) := fun d h1 => h1.elim (fun e => (List.mem_cons.1 e).imp_right .inl) fun e => .inr (.inr e)
    by_cases hqk : q = k
    · rw [hqk, if_pos rfl]
      constructor
      · intro e; injection e with e; subst e; exact ⟨.inl (List.mem_cons_self ..), hF1⟩
      · rintro ⟨h1, h2⟩
        rcases hmem d h1 with e | e
        · rw [e]
        · exact absurd ((hF d (.inr (.inr e))).1.symm.trans h2) ((h.none_ hf).1 d e)
    · rw [if_neg hqk, h.lk q d]
      constructor
      · rintro ⟨h1, h2⟩; exact ⟨h1.imp_left (List.mem_cons_of_mem _), by rw [(hF d (.inr (.inr h1))).1, h2]⟩
      · rintro ⟨h1, h2⟩
        rcases hmem d h1 with e | e
        · rw [e, hF1] at h2; exact absurd h2.symm hqk
        · exact ⟨e, by rw [← (hF d (.inr (.inr e))).1, h2]⟩
  · show sumE (en F' ((w.heap.size + 1) :: x.T)) + sumE (en F' x.K) ≤ 1073741824
    rw [hT, hK, sumE]; simp only; omega
  · rcases hy with hy | hy | hy
    · exact .inl (.inl hy)
    · exact .inl (.inr (.inl hy))
    · have hy2 : x.nd y ∨ y = w.heap.size + 1 := by
        rcases hy with hy | hy | hy | hy
        · exact .inl (.inl hy)
        · exact .inl (.inr (.inl hy))
        · rcases List.mem_cons.1 hy with hy | hy
          · exact .inr hy
          · exact .inl (.inr (.inr (.inl hy)))
        · exact .inl (.inr (.inr (.inr hy)))
      rcases hy2 with hy2 | hy2
      · exact .inl (.inr (.inr hy2))
      · exact .inr (by omega)
set_option maxHeartbeats 2000000 in
theorem add_T (w : World) (g n : Nat) (al ke mo : Int) (x : Sx) (h : St w g n al ke mo x) (k : ByteArray) (hk : k.size ≤ 281474976710656) (hf : x.f k = none) (z : Int) (hz : 1 ≤ z) (hl : sumE x.tE + sumE x.kE + z ≤ 1073741824) (hn : n < 1099511627776) :
    Calls Tryz.prog 70 #[ptr g, .agg #[.string k, .int .i64 z], .int .i64 0] w (RetP (StepN g n (n + 1) al ke mo x ((k, z) :: x.tE) (x.kE) w)) := by
  have hmd := add_md h hf (z := z) 0 hz hl
  have HEN := Lib.hid (ent_T _ g al ke mo _ _ hmd (by show (upA x.F (w.heap.size + 1) ⟨k, z, 0, none, none⟩ (w.heap.size + 1)).s = 0; unfold upA; rw [if_pos rfl]))
  have HEND := Lib.hid (fun (w3 w4 : World) (e : Ending) hen hm hgr => add_stT (w3 := w3) (w4 := w4) h hf hz hl hn (e := e) hen hm hgr)
  have hmb := h.nm
  have hml := h.mp.lt
  have HM := Lib.hid (fun (w3 : World) (hC : Chg (fun b => b = g ∨ x.nd b ∨ b = w.heap.size + 1) (addW w k z 0) w3) => (h.mp.below (addW_bel w k z 0)).keep (hC.block x.mb (by simp; omega) (fun e => e.elim (fun e => hmb.2 e.symm) fun e => e.elim hmb.1 fun e => by omega)))
  have hgl := h.bk.lt
  have hkey := keyB k hk
  have HNW := Lib.hid hn
  have HGE := Lib.hid (fun (w3 : World) (hC : Chg (fun b => b = g ∨ x.nd b ∨ b = w.heap.size + 1) (addW w k z 0) w3) => (hC.block w.heap.size (by simp; omega) (fun e => e.elim (fun e => by omega) fun e => e.elim (fun e => by have := h.lt (.inr (.inr e)); omega) fun e => by omega)).trans (Below.heap_alloc _ _ _ (by simp)))
  obtain ⟨c0, _, _, _, c4, c5, c6, c7, c8⟩ := h.cells
  clear h hk hf hz hl hmd hmb hml hgl hn
  go_enter Tryz.func70, Tryz.ntmps70
  go_wp2_with fail
  refine HEN.out.mono ?_
  intro e w3 hq
  have HQ := Lib.hid hq
  obtain ⟨rfl, F', q1, q2, q3, q4, q5, q6⟩ := hq
  have k8 : w3.cell? ⟨g, 8, none⟩ = some (.map (some x.mb)) := q4.cell 8
  have kB : Bk w3 w.heap.size 127 #[.string k, .int .i64 z] := (HGE.out w3 q5).trans (heap_alloc_new w _)
  have k0 : w3.cell? ⟨w.heap.size, 0, none⟩ = some (.string k) := kB.cell 0
  obtain ⟨D, hown, hD⟩ := HM.out w3 q5
  obtain ⟨w4, hrun, ho4, hg4⟩ := (hown.drew).update strK Tryz.underlying122 (by have := HNW.out; unfold maxLen; omega) hkey (val := ptr (w.heap.size + 1)) (d := pD (some (w.heap.size + 1))) (ps := []) (ptrE_mk (some (w.heap.size + 1)))
  have hm4 : MapP w4 x.mb (n + 1) fun y => if y = k then some (w.heap.size + 1) else x.f y := MapP.put hown hD ho4
  have HS := Lib.hid (HEND.out w3 w4 _ HQ.out hm4 ⟨hg4.os, hg4.tape, hg4.output, hg4.size, hg4.block⟩)
  clear q1 q2 q3 q4 q5 q6 kB hD hown ho4 hg4 hm4
  go_wp2
  go_region
  all_goals
    go_wp2
    refine bodyPost_ret (v := .tuple #[]) (by simp [results, Tryz.results70, go_sem]) rfl ⟨rfl, ?_⟩
    exact HS.out
theorem add_stK {w w3 w4 : World} {g n : Nat} {al ke mo : Int} {x : Sx} (h : St w g n al ke mo x) {k : ByteArray} (hf : x.f k = none) {z : Int} (hz : 1 ≤ z) (hl : sumE x.tE + sumE x.kE + z ≤ 1073741824) (hn : n < 1099511627776) {e : Ending}
    (hen : EnPK g al ke mo ⟨x.e0, x.e1, x.mb, x.T, x.K, upA x.F (w.heap.size + 1) ⟨k, z, 1, none, none⟩, x.f⟩ (w.heap.size + 1) (addW w k z 1) e w3)
    (hm : MapP w4 x.mb (n + 1) fun y => if y = k then some (w.heap.size + 1) else x.f y) (hgr : w3.grownBy w4 (some x.mb)) : StepN g n (n + 1) al ke mo x (x.tE) ((k, z) :: x.kE) w w4 := by
  obtain ⟨_, F', q1, q2, q3, q4, q5, q6⟩ := hen
  have hp : ∀ b, x.nd b → b ≠ w.heap.size + 1 := fun b hb e => by have := h.lt (.inr (.inr hb)); omega
  have hq : upA x.F (w.heap.size + 1) ⟨k, z, 1, none, none⟩ (w.heap.size + 1) = ⟨k, z, 1, none, none⟩ := by unfold upA; rw [if_pos rfl]
  have hF1 : (F' (w.heap.size + 1)).k = k := by rw [(q3 _).1]; show (upA x.F (w.heap.size + 1) ⟨k, z, 1, none, none⟩ (w.heap.size + 1)).k = k; rw [hq]
  have hF2 : (F' (w.heap.size + 1)).z = z := by rw [(q3 _).2]; show (upA x.F (w.heap.size + 1) ⟨k, z, 1, none, none⟩ (w.heap.size + 1)).z = z; rw [hq]
  have hF0 : ∀ b, x.nd b → upA x.F (w.heap.size + 1) ⟨k, z, 1, none, none⟩ b = x.F b := fun b hb => by unfold upA; rw [if_neg (hp b hb)]
  have hF : ∀ b, x.nd b → (F' b).k = (x.F b).k ∧ (F' b).z = (x.F b).z := fun b hb => by
    rw [(q3 b).1, (q3 b).2]
    show (upA x.F (w.heap.size + 1) ⟨k, z, 1, none, none⟩ b).k = _ ∧ (upA x.F (w.heap.size + 1) ⟨k, z, 1, none, none⟩ b).z = _
    rw [hF0 b hb]; exact ⟨rfl, rfl⟩
  have eT : en F' x.T = x.tE := en_congr fun b hb => hF b (.inr (.inr (.inl hb)))
  have eK : en F' x.K = x.kE := en_congr fun b hb => hF b (.inr (.inr (.inr hb)))
  have hbel := addW_bel w k z 1
  have hnm := h.nm
  have hT : en F' x.T = x.tE := by exact eT
  have hK : en F' ((w.heap.size + 1) :: x.K) = (k, z) :: x.kE := by show ((F' (w.heap.size + 1)).k, (F' (w.heap.size + 1)).z) :: en F' x.K = _; rw [hF1, hF2, eK]
  have hsz : w3.heap.size = w.heap.size + 2 := by rw [q6]; simp
  have hne : ∀ b, (x.nd b ∨ b = w.heap.size + 1) → some b ≠ some x.mb := fun b hb e => by
    injection e with e
    rcases hb with hb | hb
    · exact hnm.1 (by rw [← e]; exact hb)
    · have := h.mp.lt; omega
  have hC : Chg (x.own g) w w4 := ((Chg.of_below hbel).trans' q5 fun b hb hs => by
    rcases hs with hs | hs | hs
    · exact .inl hs
    · exact .inr (.inr hs)
    · omega).grown hgr fun b hb _ => by injection hb with hb; exact .inr (.inl hb.symm)
  refine ⟨⟨x.e0, x.e1, x.mb, x.T, ((w.heap.size + 1) :: x.K), F', fun y => if y = k then some (w.heap.size + 1) else x.f y⟩, ⟨?_, fun y hy => ?_, q2, hm, fun q d => ?_, ?_, by omega⟩, hT, hK, fun y hy => ?_, hC⟩
  · show Bk w4 g _ (cel g al ke mo x.e0 x.e1 x.mb (sumE (en F' x.T)) (sumE (en F' ((w.heap.size + 1) :: x.K))))
    refine Bk.heap (w := w3) ?_ (hgr.block g (by have := h.bk.lt; omega) (fun e => hnm.2 (by injection e with e)))
    rw [hT, hK]
    have hb2 := q4
    have e5 : en (upA x.F (w.heap.size + 1) ⟨k, z, 1, none, none⟩) x.T = x.tE := en_congr fun b hb => by rw [hF0 b (.inr (.inr (.inl hb)))]; exact ⟨rfl, rfl⟩
    have e6 : en (upA x.F (w.heap.size + 1) ⟨k, z, 1, none, none⟩) x.K = x.kE := en_congr fun b hb => by rw [hF0 b (.inr (.inr (.inr hb)))]; exact ⟨rfl, rfl⟩
    have e9 : sumE ((k, z) :: x.kE) = sumE x.kE + z := by rw [sumE]; exact Int.add_comm _ _
    rw [e9]
    have hb3 : Bk w3 g 124 (cel g al ke mo x.e0 x.e1 x.mb (sumE (en (upA x.F (w.heap.size + 1) ⟨k, z, 1, none, none⟩) x.T)) (sumE (en (upA x.F (w.heap.size + 1) ⟨k, z, 1, none, none⟩) x.K) + (upA x.F (w.heap.size + 1) ⟨k, z, 1, none, none⟩ (w.heap.size + 1)).z)) := hb2
    rw [e5, e6, hq] at hb3
    exact hb3
  · have hy2 : x.nd y ∨ y = w.heap.size + 1 := by
      rcases hy with hy | hy | hy | hy
      · exact .inl (.inl hy)
      · exact .inl (.inr (.inl hy))
      · exact .inl (.inr (.inr (.inl hy)))
      · rcases List.mem_cons.1 hy with hy | hy
        · exact .inr hy
        · exact .inl (.inr (.inr (.inr hy)))
    exact (q1 y hy2).heap (hgr.block y (by
      rcases hy2 with hy2 | hy2
      · have := h.lt (.inr (.inr hy2)); omega
      · omega) (hne y hy2))
  · show (if q = k then some (w.heap.size + 1) else x.f q) = some d ↔ (d ∈ x.T ∨ d ∈ ((w.heap.size + 1) :: x.K)) ∧ (F' d).k = q
    have hmem : ∀ d, (d ∈ x.T ∨ d ∈ ((w.heap.size + 1) :: x.K)) → d = w.heap.size + 1 ∨ (d ∈ x.T ∨ d ∈ x.K) := fun d h1 => h1.elim (fun e => .inr (.inl e)) fun e => (List.mem_cons.1 e).imp_right .inr
    by_cases hqk : q = k
    · rw [hqk, if_pos rfl]
      constructor
      · intro e; injection e with e; subst e; exact ⟨.inr (List.mem_cons_self ..), hF1⟩
      · rintro ⟨h1, h2⟩
        rcases hmem d h1 with e | e
        · rw [e]
        · exact absurd ((hF d (.inr (.inr e))).1.symm.trans h2) ((h.none_ hf).1 d e)
    · rw [if_neg hqk, h.lk q d]
      constructor
      · rintro ⟨h1, h2⟩; exact ⟨h1.imp_right (List.mem_cons_of_mem _), by rw [(hF d (.inr (.inr h1))).1, h2]⟩
      · rintro ⟨h1, h2⟩
        rcases hmem d h1 with e | e
        · rw [e, hF1] at h2; exact absurd h2.symm hqk
        · exact ⟨e, by rw [← (hF d (.inr (.inr e))).1, h2]⟩
  · show sumE (en F' x.T) + sumE (en F' ((w.heap.size + 1) :: x.K)) ≤ 1073741824
    rw [hT, hK, sumE]; simp only; omega
  · rcases hy with hy | hy | hy
    · exact .inl (.inl hy)
    · exact .inl (.inr (.inl hy))
    · have hy2 : x.nd y ∨ y = w.heap.size + 1 := by
        rcases hy with hy | hy | hy | hy
        · exact .inl (.inl hy)
        · exact .inl (.inr (.inl hy))
        · exact .inl (.inr (.inr (.inl hy)))
        · rcases List.mem_cons.1 hy with hy | hy
          · exact .inr hy
          · exact .inl (.inr (.inr (.inr hy)))
      rcases hy2 with hy2 | hy2
      · exact .inl (.inr (.inr hy2))
      · exact .inr (by omega)
set_option maxHeartbeats 2000000 in
theorem add_K (w : World) (g n : Nat) (al ke mo : Int) (x : Sx) (h : St w g n al ke mo x) (k : ByteArray) (hk : k.size ≤ 281474976710656) (hf : x.f k = none) (z : Int) (hz : 1 ≤ z) (hl : sumE x.tE + sumE x.kE + z ≤ 1073741824) (hn : n < 1099511627776) :
    Calls Tryz.prog 70 #[ptr g, .agg #[.string k, .int .i64 z], .int .i64 1] w (RetP (StepN g n (n + 1) al ke mo x (x.tE) ((k, z) :: x.kE) w)) := by
  have hmd := add_md h hf (z := z) 1 hz hl
  have HEN := Lib.hid (ent_K _ g al ke mo _ _ hmd (by show (upA x.F (w.heap.size + 1) ⟨k, z, 1, none, none⟩ (w.heap.size + 1)).s = 1; unfold upA; rw [if_pos rfl]))
  have HEND := Lib.hid (fun (w3 w4 : World) (e : Ending) hen hm hgr => add_stK (w3 := w3) (w4 := w4) h hf hz hl hn (e := e) hen hm hgr)
  have hmb := h.nm
  have hml := h.mp.lt
  have HM := Lib.hid (fun (w3 : World) (hC : Chg (fun b => b = g ∨ x.nd b ∨ b = w.heap.size + 1) (addW w k z 1) w3) => (h.mp.below (addW_bel w k z 1)).keep (hC.block x.mb (by simp; omega) (fun e => e.elim (fun e => hmb.2 e.symm) fun e => e.elim hmb.1 fun e => by omega)))
  have hgl := h.bk.lt
  have hkey := keyB k hk
  have HNW := Lib.hid hn
  have HGE := Lib.hid (fun (w3 : World) (hC : Chg (fun b => b = g ∨ x.nd b ∨ b = w.heap.size + 1) (addW w k z 1) w3) => (hC.block w.heap.size (by simp; omega) (fun e => e.elim (fun e => by omega) fun e => e.elim (fun e => by have := h.lt (.inr (.inr e)); omega) fun e => by omega)).trans (Below.heap_alloc _ _ _ (by simp)))
  obtain ⟨c0, _, _, _, c4, c5, c6, c7, c8⟩ := h.cells
  clear h hk hf hz hl hmd hmb hml hgl hn
  go_enter Tryz.func70, Tryz.ntmps70
  go_wp2_with fail
  refine HEN.out.mono ?_
  intro e w3 hq
  have HQ := Lib.hid hq
  obtain ⟨rfl, F', q1, q2, q3, q4, q5, q6⟩ := hq
  have k8 : w3.cell? ⟨g, 8, none⟩ = some (.map (some x.mb)) := q4.cell 8
  have kB : Bk w3 w.heap.size 127 #[.string k, .int .i64 z] := (HGE.out w3 q5).trans (heap_alloc_new w _)
  have k0 : w3.cell? ⟨w.heap.size, 0, none⟩ = some (.string k) := kB.cell 0
  obtain ⟨D, hown, hD⟩ := HM.out w3 q5
  obtain ⟨w4, hrun, ho4, hg4⟩ := (hown.drew).update strK Tryz.underlying122 (by have := HNW.out; unfold maxLen; omega) hkey (val := ptr (w.heap.size + 1)) (d := pD (some (w.heap.size + 1))) (ps := []) (ptrE_mk (some (w.heap.size + 1)))
  have hm4 : MapP w4 x.mb (n + 1) fun y => if y = k then some (w.heap.size + 1) else x.f y := MapP.put hown hD ho4
  have HS := Lib.hid (HEND.out w3 w4 _ HQ.out hm4 ⟨hg4.os, hg4.tape, hg4.output, hg4.size, hg4.block⟩)
  clear q1 q2 q3 q4 q5 q6 kB hD hown ho4 hg4 hm4
  go_wp2
  go_region
  all_goals
    go_wp2
    refine bodyPost_ret (v := .tuple #[]) (by simp [results, Tryz.results70, go_sem]) rfl ⟨rfl, ?_⟩
    exact HS.out
end Go.Proofs.YtjngangojgjceaaGreat.SL
namespace Go.Proofs.YtjngangojgjceaaGreat.SL
open Go.ChangeShapes Go.WideShapes Go.ChangeAt Go.RowKit Go.Maps Go.ChangeMaps
set_option maxRecDepth 100000
set_option linter.unusedVariables false
set_option linter.unusedSimpArgs false

theorem clone_any (s : ByteArray) (w : World) (hs : s.size ≤ 281474976710656) :
    Calls Tryz.prog 37 #[.string s] w fun e w' => e = .returned (.string s) ∧ Below w.heap.size w w' := by
  have c := fun w => Tryz.stringslite_Clone s w (by omega)
  go_enter Tryz.func37, Tryz.ntmps37
  go_wp2_with (go_at_call 75; refine (c _).mono ?_; rintro e w' ⟨rfl, hb⟩)
  go_ret
  exact ⟨rfl, hb⟩
abbrev enV (k : ByteArray) (z : Int) : Value := .agg #[.string k, .int .i64 z]
abbrev enZ : Value := .agg #[.string ⟨#[]⟩, .int .i64 0]
theorem en_eq (k : ByteArray) (z : Int) (hz : 1 ≤ z) (w : World) : (binOp .eql 127 (enV k z) enZ).run Tryz.prog w = .ok (.bool false) w := by
  have h0 : ¬ z = 0 := by omega
  go_simp
theorem en_ne (k : ByteArray) (z : Int) (hz : 1 ≤ z) (w : World) : (binOp .neq 127 (enV k z) enZ).run Tryz.prog w = .ok (.bool true) w := by
  have h0 : ¬ z = 0 := by omega
  go_simp
theorem en_eq0 (w : World) : (binOp .eql 127 enZ enZ).run Tryz.prog w = .ok (.bool true) w := by
  go_simp
theorem en_ne0 (w : World) : (binOp .neq 127 enZ enZ).run Tryz.prog w = .ok (.bool false) w := by
  go_simp
/-- the last block of a ring -/
theorem GG.last {s0 s1 : Int} {e0 e1 : Nat} {T K : List Nat} {F : Nat → Nd} (h : GG s0 s1 e0 e1 T K F) : (T = [] ∧ (F e0).nw = some e0) ∨ ∃ L c, T = L ++ [c] ∧ (F e0).nw = some c := by
  obtain ⟨a, A, c, C, h1, h2, h3, h4⟩ := ring_ends h.l0
  rcases List.eq_nil_or_concat T with rfl | ⟨L, d, rfl⟩
  · left
    cases C with
    | nil => simp at h3; exact ⟨rfl, by rw [h4, h3]⟩
    | cons x C => simp at h3
  · right
    refine ⟨L, d, by simp, ?_⟩
    rw [h4]
    rw [List.concat_eq_append, ← List.cons_append] at h3
    have := List.append_inj_right' h3 rfl
    simpa using this.symm
theorem sl_one (t : TypeId) {W : World} {b : Nat} {k : ByteArray} (h : Bk W b t #[.string k]) : ∀ (i : Nat) (v : Value), [Value.string k][i]? = some v → W.cell? ((⟨b, 0, none⟩ : Addr).add i) = some v := by
  intro i v hi
  rw [Addr.add_lit, Nat.zero_add]
  rw [h.cell i]
  simpa using hi
theorem iStr : ∃ i, Tryz.prog.info? 9 = some i ∧ i.zero = some (.string ByteArray.empty) ∧ i.size = 1 ∧ i.bytes = 16 := by
  have h : (Tryz.prog.info? 9).bind (fun i => if i.size = 1 ∧ i.bytes = 16 then i.zero else none) = some (.string ByteArray.empty) := by kernel_rfl
  cases hi : Tryz.prog.info? 9 with
  | none => rw [hi] at h; cases h
  | some j =>
    rw [hi] at h
    by_cases hc : j.size = 1 ∧ j.bytes = 16
    · simp [hc] at h
      exact ⟨j, rfl, h, hc.1, hc.2⟩
    · simp [hc] at h
/-- one text more -/
theorem wpList_app_text {w : World} {ops : Array Oper} {rest : List Oper} {o : Oper} {a : Act} {Q : Exit → Act → World → Prop} (B : Nat) (v : Value) (d : List ByteArray) (k : ByteArray) (b : Nat) (hgd : o.guard = none) (s x : Operand)
    (ho : o.op = .call { callee := .builtin .append, args := #[s, x], argTypes := #[80, 80] }) (hs : a.eval s = v) (hown : OT B w v d) (hx : a.eval x = .slice (some ⟨b, 0, none⟩) 1 1) (hb : Bk w b 9 #[.string k])
    (hd : d.length ≤ 1099511627776) (hB : B ≤ w.heap.size)
    (hk : ∀ g cap w', OT B w' (.slice (some ⟨g, 0, none⟩) (d.length + 1) cap) (d ++ [k]) → w.grownBy w' v.ownBlock → wpList Tryz.prog ops Q rest (a.put o.dst (.slice (some ⟨g, 0, none⟩) (d.length + 1) cap)) w') : wpList Tryz.prog ops Q (o :: rest) a w := by
  obtain ⟨i, hi, hz, hsz, hby⟩ := iStr
  refine wpList_append_lies _ hgd s x 80 ho B 9 i (.string ByteArray.empty) 1 16 Tryz.underlying80 hi hz hsz hby rfl (by decide) v d.length (d.map bV) hs hown ⟨b, 0, none⟩ 1 1 [.string k] hx rfl (sl_one _ hb) (by intro u hu; simp at hu; subst hu; rfl) (by decide) (by unfold maxLen; omega) (by omega) hB _ rfl ?_
  intro g cap w' h1 h2 h3 h4
  refine hk g cap w' ?_ h2
  unfold OT
  rw [List.length_append, List.map_append]
  exact h1
/-- what stands last in a list of blocks -/
theorem last_of {F : Nat → Nd} {L : List Nat} {c : Nat} (hu : ∀ a b, (a ∈ L ++ [c]) → (b ∈ L ++ [c]) → (F a).k = (F b).k → a = b) (hn : (L ++ [c]).Nodup) :
    delE (F c).k (en F (L ++ [c])) = (en F (L ++ [c])).dropLast ∧ (en F (L ++ [c])).getLast? = some ((F c).k, (F c).z) ∧ (en F (L ++ [c])).length = L.length + 1 ∧ (en F (L ++ [c])).dropLast.length = L.length := by
  have e : en F (L ++ [c]) = en F L ++ [((F c).k, (F c).z)] := by unfold en; rw [List.map_append]; rfl
  refine ⟨?_, by rw [e]; simp, by unfold en; simp, by rw [e, List.dropLast_concat]; unfold en; simp⟩
  rw [e, List.dropLast_concat]
  unfold delE
  rw [List.filter_append, List.filter_eq_self.2, List.filter_cons, if_neg (by simp), List.filter_nil, List.append_nil]
  intro y hy
  obtain ⟨b, hb, rfl⟩ := List.mem_map.1 hy
  simp only [ne_eq, decide_not, Bool.not_eq_true', decide_eq_false_iff_not]
  intro ek
  have := hu b c (by simp [hb]) (by simp) ek
  subst this
  exact (List.nodup_append.1 hn).2.2 b hb b (by simp) rfl
theorem St.lastT {w : World} {g n : Nat} {al ke mo : Int} {x : Sx} (h : St w g n al ke mo x) {L : List Nat} {c : Nat} (hT : x.T = L ++ [c]) :
    delE (x.F c).k x.tE = x.tE.dropLast ∧ delE (x.F c).k x.kE = x.kE ∧ x.tE.getLast? = some ((x.F c).k, (x.F c).z) ∧ x.tE.length = L.length + 1 ∧ x.tE.dropLast.length = L.length ∧ x.nd c ∧ 1 ≤ (x.F c).z ∧ ((x.F c).k, (x.F c).z) ∈ x.tE := by
  have hc : c ∈ x.T := by rw [hT]; simp
  obtain ⟨h1, h2, h3, h4⟩ := last_of (F := x.F) (L := L) (c := c) (fun a b ha hb e => h.gg.uq a b (.inl (by rw [hT]; exact ha)) (.inl (by rw [hT]; exact hb)) e) (by rw [← hT]; exact (List.nodup_cons.1 h.gg.n0).2)
  rw [← hT] at h1 h2 h3 h4
  refine ⟨h1, del_none fun y hy => ?_, h2, h3, h4, .inr (.inr (.inl hc)), h.gg.pos c (.inl hc), List.mem_map.2 ⟨c, hc, rfl⟩⟩
  obtain ⟨b, hb, rfl⟩ := List.mem_map.1 hy
  intro e
  have := h.gg.uq b c (.inr hb) (.inl hc) e
  subst this
  exact h.gg.ap b (.inr hc) (.inr hb)
theorem St.lastK {w : World} {g n : Nat} {al ke mo : Int} {x : Sx} (h : St w g n al ke mo x) {L : List Nat} {c : Nat} (hT : x.K = L ++ [c]) :
    delE (x.F c).k x.kE = x.kE.dropLast ∧ delE (x.F c).k x.tE = x.tE ∧ x.kE.getLast? = some ((x.F c).k, (x.F c).z) ∧ x.kE.length = L.length + 1 ∧ x.kE.dropLast.length = L.length ∧ x.nd c ∧ 1 ≤ (x.F c).z ∧ ((x.F c).k, (x.F c).z) ∈ x.kE := by
  have hc : c ∈ x.K := by rw [hT]; simp
  obtain ⟨h1, h2, h3, h4⟩ := last_of (F := x.F) (L := L) (c := c) (fun a b ha hb e => h.gg.uq a b (.inr (by rw [hT]; exact ha)) (.inr (by rw [hT]; exact hb)) e) (by rw [← hT]; exact (List.nodup_cons.1 h.gg.n1).2)
  rw [← hT] at h1 h2 h3 h4
  refine ⟨h1, del_none fun y hy => ?_, h2, h3, h4, .inr (.inr (.inr hc)), h.gg.pos c (.inr hc), List.mem_map.2 ⟨c, hc, rfl⟩⟩
  obtain ⟨b, hb, rfl⟩ := List.mem_map.1 hy
  intro e
  have := h.gg.uq b c (.inl hb) (.inr hc) e
  subst this
  exact h.gg.ap b (.inr hb) (.inr hc)
def RoomP (g n : Nat) (al ke mo : Int) (x : Sx) (R : List En × List En × List ByteArray) (w : World) (e : Ending) (w' : World) : Prop :=
  ∃ v x', e = .returned v ∧ OT w.heap.size w' v R.2.2 ∧ St w' g n al ke mo x' ∧ x'.tE = R.1 ∧ x'.kE = R.2.1 ∧ (∀ y, x'.own g y → x.own g y) ∧ Chg (x.own g) w w'
theorem OT.chg {B : Nat} {w w' : World} {v : Value} {d : List ByteArray} {S : Nat → Prop} (h : OT B w v d) (hc : Chg S w w') (hn : ∀ k, v.ownBlock = some k → ¬ S k) : OT B w' v d :=
  h.keep fun k hk => hc.block k (World.ownsRow.lt h k hk).2 (hn k hk)
theorem OT.below {B : Nat} {w w' : World} {v : Value} {d : List ByteArray} (h : OT B w v d) (hc : Below w.heap.size w w') : OT B w' v d := h.keep fun k hk => hc.block k (World.ownsRow.lt h k hk).2
set_option maxHeartbeats 1000000 in
theorem room_any (w : World) (g n : Nat) (al ke mo : Int) (x : Sx) (h : St w g n al ke mo x) (z : Int) (hz : 1 ≤ z ∧ z ≤ al ∧ al ≤ 1073741824) (hks : ∀ y ∈ x.tE ++ x.kE, y.1.size ≤ 281474976710656) (R : List En × List En × List ByteArray) (hR : roomE al z (x.tE.length + x.kE.length) x.tE x.kE = R) :
    Calls Tryz.prog 69 #[ptr g, .int .i64 z] w (RoomP g n al ke mo x R w) := by
  have HH := Lib.hid h
  have HZ := Lib.hid hz
  have HR := Lib.hid hR
  have HKS := Lib.hid hks
  have HN := Lib.hid (show x.tE.length + x.kE.length ≤ 1073741824 by have := sum_pos h.gg.en_pos.1; have := sum_pos h.gg.en_pos.2; have := h.lim; have e1 : sumE x.tE = sumE (en x.F x.T) := rfl; have e2 : sumE x.kE = sumE (en x.F x.K) := rfl; have e3 : x.tE.length = (en x.F x.T).length := rfl; have e4 : x.kE.length = (en x.F x.K).length := rfl; omega)
  clear h hz hR hks
  go_enter Tryz.func69, Tryz.ntmps69
  go_wp2
  go_loopg [5] (x.tE.length + x.kE.length) (fun gk u5 wx => ∃ x' gone, St wx g n al ke mo x' ∧ OT w.heap.size wx u5 gone ∧ x'.tE.length + x'.kE.length = gk ∧ gone.length + gk = x.tE.length + x.kE.length ∧ (roomE al z gk x'.tE x'.kE).1 = R.1 ∧ (roomE al z gk x'.tE x'.kE).2.1 = R.2.1 ∧ gone ++ (roomE al z gk x'.tE x'.kE).2.2 = R.2.2 ∧ (∀ y, x'.own g y → x.own g y) ∧ Chg (x.own g) w wx ∧ ∀ y ∈ x'.tE ++ x'.kE, y.1.size ≤ 281474976710656)
  case atStart => exact ⟨x, [], HH.out, OT.nil _ _, rfl, by simp, by rw [HR.out], by rw [HR.out], by rw [HR.out]; rfl, fun _ e => e, Chg.refl _ _, HKS.out⟩
  case round =>
    obtain ⟨x', gone, hst, hot, hgk, hln, hr1, hr2, hr3, hown, hchg, hks⟩ := hrel
    have hsum := hst.sums
    have hlim := hst.lim
    have hz := HZ.out
    obtain ⟨c0, c1, _, _, c4, _, c6, _, _⟩ := hst.cells
    obtain ⟨sT, hsT⟩ : ∃ s, sumE x'.tE = s := ⟨_, rfl⟩
    obtain ⟨sK, hsK⟩ : ∃ s, sumE x'.kE = s := ⟨_, rfl⟩
    have HBF := Lib.hid (fun N => bytes_false (wr.drewN N) g n al ke mo x' (hst.sm ⟨rfl, rfl, rfl, rfl⟩))
    have HBT := Lib.hid (fun N => bytes_true (wr.drewN N) g n al ke mo x' (hst.sm ⟨rfl, rfl, rfl, rfl⟩))
    rw [hsT] at HBF hsum hlim
    rw [hsK] at HBT hsum hlim
    obtain ⟨hs0, hs1⟩ := hsum
    obtain ⟨hz1, hz2, hz3⟩ := hz
    have w1 : IntKind.i64.wrap (sT + sK) = sT + sK := IntWalk.i64_in _ (by omega)
    have w2 : IntKind.i64.wrap (sT + sK + z) = sT + sK + z := IntWalk.i64_in _ (by omega)
    have w3 : 0 ≤ sT + sK := by omega
    have w4 : sT + sK ≤ 1073741824 := hlim
    by_cases hc : al < sT + sK + z
    · have w5 : decide (al < sT + sK + z) = true := decide_eq_true hc
      go_wp2
      go_quiet ((go_at_call 60; first | (with_reducible exact Calls.quiet_of (HBF.out _)) | (with_reducible exact Calls.quiet_of (HBT.out _))))
      obtain ⟨W0, hW0⟩ : ∃ W0, wr.drewN nq = W0 := ⟨_, rfl⟩
      have sm0 : Sm wr W0 := by rw [← hW0]; exact ⟨rfl, rfl, rfl, rfl⟩
      rw [hW0]
      obtain ⟨b0, b1, _, _, b4, _, b6, _, _⟩ := (hst.sm sm0).cells
      obtain ⟨y0, y1, _, y3, _⟩ := (hst.sm sm0).node (b := x'.e0) (.inl rfl)
      obtain ⟨_, _, _, v3, _⟩ := (hst.sm sm0).node (b := x'.e1) (.inr (.inl rfl))
      rw [hst.gg.z0.1] at y0
      rw [hst.gg.z0.2] at y1
      clear HBF HBT c0 c1 c4 c6
      rcases hst.gg.last with ⟨hTn0, hnw⟩ | ⟨L, c, hL, hnw⟩
      · rw [hnw] at y3
        have hTn : x'.tE = [] := by show en x'.F x'.T = []; rw [hTn0]; rfl
        rcases hst.gg.swap.last with ⟨hKn, _⟩ | ⟨L, c, hL, hnw2⟩
        · exfalso
          have h1 : sT = 0 := by rw [← hsT, hTn]; rfl
          have h2 : sK = 0 := by rw [← hsK]; show sumE (en x'.F x'.K) = 0; rw [hKn]; rfl
          omega
        rw [hnw2] at v3
        obtain ⟨kc, hkc⟩ : ∃ k, (x'.F c).k = k := ⟨_, rfl⟩
        obtain ⟨zc, hzc⟩ : ∃ z, (x'.F c).z = z := ⟨_, rfl⟩
        obtain ⟨q1, q2, q3, q4, q5, q6, q7, q8⟩ := hst.lastK hL
        rw [hkc] at q1 q2 q3 q8
        rw [hzc] at q3 q7 q8
        obtain ⟨d0, d1, _⟩ := (hst.sm sm0).node q6
        rw [hkc] at d0
        rw [hzc] at d1
        have hkk : kc.size ≤ 281474976710656 := hks (kc, zc) (by simp [q8])
        obtain ⟨gko, hgo⟩ : ∃ gko, gk = gko + 1 := ⟨gk - 1, by omega⟩
        subst hgo
        have hroom : roomE al z (gko + 1) x'.tE x'.kE = ((roomE al z gko x'.tE x'.kE.dropLast).1, (roomE al z gko x'.tE x'.kE.dropLast).2.1, kc :: (roomE al z gko x'.tE x'.kE.dropLast).2.2) := by
          rw [roomE, hsT, hsK, if_pos hc]; rw [hTn, q3]; rfl
        rw [hroom] at hr1 hr2 hr3
        simp only at hr1 hr2 hr3
        have HDR := Lib.hid (fun (W : World) (hW : Below W0.heap.size W0 W) => drop_any W g n al ke mo x' ((hst.sm sm0).below hW) kc hkk)
        have hlt := fun b hb => (hst.sm sm0).lt (b := b) hb
        have HLT := Lib.hid hlt
        have HW0 := Lib.hid (show Chg (x.own g) w W0 from hchg.trans (sm0.chg _))
        have HOT0 := Lib.hid (show OT w.heap.size W0 u5 gone from hot.keep fun q hq => by rw [sm0.heap])
        have HOWN := Lib.hid hown
        have HR1 := Lib.hid hr1
        have HR2 := Lib.hid hr2
        have HR3 := Lib.hid hr3
        have HGL := Lib.hid hln
        have HGK := Lib.hid hgk
        have HKS1 := Lib.hid hks
        have Q1 := Lib.hid q1
        have Q2 := Lib.hid q2
        have HLEN := Lib.hid (show x'.tE.length + x'.kE.dropLast.length = gko by omega)
        have qe := fun W => en_eq kc zc q7 W
        have qz := en_eq0
        have HL0 := Lib.hid (last_any W0 g 4 x'.e0 x'.e0 b4 y3)
        have HL1 := Lib.hid (fun (W : World) (hW : Below W0.heap.size W0 W) => last_any W g 6 x'.e1 c ((hW.cell (p := ⟨g, 6, none⟩) (hlt g (.inl rfl))).trans b6) ((hW.cell (p := ⟨x'.e1, 3, none⟩) (hlt _ (.inr (.inr (.inr (.inl rfl)))))).trans v3))
        have HCC := Lib.hid (fun (W : World) (hW : Below W0.heap.size W0 W) => (show W.cell? ⟨c, 0, none⟩ = some (.string kc) ∧ W.cell? ⟨c, 1, none⟩ = some (.int .i64 zc) from ⟨(hW.cell (p := ⟨c, 0, none⟩) (hlt _ (.inr (.inr q6)))).trans d0, (hW.cell (p := ⟨c, 1, none⟩) (hlt _ (.inr (.inr q6)))).trans d1⟩))
        clear hst hot hgk hln hr1 hr2 hr3 hown hchg hks hsT hsK hc sm0 hW0 hlt hroom q1 q2 q3 q4 q5 q6 q7 q8 hkk hkc hzc hL hTn hTn0 hnw hnw2
        go_wp2_with fail
        refine HL0.out.mono ?_
        rintro e w' ⟨rfl, rfl⟩
        go_wp2_with fail
        refine (HL1.out _ ((Below.refl _ _).alloc (Nat.le_refl _) _)).mono ?_
        rintro e w' ⟨rfl, rfl⟩
        obtain ⟨cc0, cc1⟩ := HCC.out (W0.alloc (.cells #[.string ByteArray.empty, .int .i64 0] 127)) ((Below.refl _ _).alloc (Nat.le_refl _) _)
        go_wp2_with fail
        obtain ⟨W1, hW1⟩ : ∃ W1, W0.alloc (.cells #[.string kc, .int .i64 zc] 127) = W1 := ⟨_, rfl⟩
        have hb1 : Below W0.heap.size W0 W1 := by rw [← hW1]; exact (Below.refl _ _).alloc (Nat.le_refl _) _
        have hk1 : Bk W1 W0.heap.size 127 #[.string kc, .int .i64 zc] := by rw [← hW1]; exact Bk.new _ _ _
        rw [hW1]
        clear hW1
        refine (HDR.out W1 hb1).mono ?_
        rintro e w2 ⟨rfl, x2, s1, s2, s3, s4, s5, s6⟩
        have hk2 := hk1.chg s5 (fun e => by have := HLT.out _ e; omega)
        have z0 : w2.cell? ⟨W0.heap.size, 0, none⟩ = some (.string kc) := hk2.cell 0
        have hot2 : OT w.heap.size w2 u5 gone := (HOT0.out.below hb1).chg s5 (fun q hq e => by have h1 := (World.ownsRow.lt HOT0.out q hq).1; have h2 := HH.out.lt (HOWN.out _ e); omega)
        have HOT2 := Lib.hid hot2
        have HC2 := Lib.hid (show Chg (x.own g) w w2 from HW0.out.trans ((Chg.of_below hb1).trans (s5.mono fun b _ hb => HOWN.out b hb)))
        have HS2 := Lib.hid (show St w2 g n al ke mo x2 from s1)
        have HT2 := Lib.hid s2
        have HK2 := Lib.hid s3
        have HO2 := Lib.hid (show ∀ y, x2.own g y → x.own g y from fun y hy => HOWN.out y (s4 y hy))
        have HWS := Lib.hid (show w.heap.size ≤ w2.heap.size from HC2.out.size)
        clear hb1 hk1 hk2 hot2 s1 s2 s3 s4 s5 s6
        go_wp2_with (at_builtin; refine wpList_app_text w.heap.size u5 gone kc w2.heap.size rfl _ _ rfl rfl (HOT2.out.below ((Below.refl _ _).alloc (Nat.le_refl _) _)) rfl (Bk.new w2 _ _) (by have := HGL.out; have := HN.out; omega) (by have := HWS.out; simp; omega) ?_; intro g9 cap9 w9 o9 gr9)
        have HO9 := Lib.hid o9
        have HG9 := Lib.hid gr9
        clear o9 gr9
        go_wp2
        go_roundg gko
        case measure => exact Nat.lt_succ_self _
        case rel =>
          have hgr : ∀ b, b < w2.heap.size → (∀ k, u5.ownBlock = some k → b ≠ k) → w9.heap[b]? = w2.heap[b]? := fun b hb hn => (HG9.out.block b (by simp; omega) (fun e => hn b e.symm rfl)).trans (Below.heap_alloc _ _ _ hb)
          have hnr : ∀ b, x.own g b → ∀ k, u5.ownBlock = some k → b ≠ k := fun b hb k hk e => by have h1 := (World.ownsRow.lt HOT0.out k hk).1; have h2 := HH.out.lt hb; omega
          refine ⟨x2, gone ++ [kc], HS2.out.keep fun b hb => hgr b (HS2.out.lt hb) (hnr b (HO2.out b hb)), ?_, ?_, ?_, ?_, ?_, ?_, HO2.out, ?_, ?_⟩
          · have := HO9.out
            simpa using this
          · rw [HT2.out, HK2.out]
            rw [Q1.out, Q2.out]; exact HLEN.out
          · have := HGL.out; simp; omega
          · rw [HT2.out, HK2.out, Q1.out, Q2.out]; exact HR1.out
          · rw [HT2.out, HK2.out, Q1.out, Q2.out]; exact HR2.out
          · rw [HT2.out, HK2.out, Q1.out, Q2.out, List.append_assoc]; exact HR3.out
          · exact ((HC2.out.alloc _).grown HG9.out fun k hk hlt => by have h1 := (World.ownsRow.lt HOT0.out k hk).1; omega)
          · intro y hy
            rw [HT2.out, HK2.out] at hy
            refine HKS1.out y ?_
            rcases List.mem_append.1 hy with h0 | h0
            · exact List.mem_append.2 (.inl (List.mem_filter.1 h0).1)
            · exact List.mem_append.2 (.inr (List.mem_filter.1 h0).1)
      · rw [hnw] at y3
        obtain ⟨kc, hkc⟩ : ∃ k, (x'.F c).k = k := ⟨_, rfl⟩
        obtain ⟨zc, hzc⟩ : ∃ z, (x'.F c).z = z := ⟨_, rfl⟩
        obtain ⟨q1, q2, q3, q4, q5, q6, q7, q8⟩ := hst.lastT hL
        rw [hkc] at q1 q2 q3 q8
        rw [hzc] at q3 q7 q8
        obtain ⟨d0, d1, _⟩ := (hst.sm sm0).node q6
        rw [hkc] at d0
        rw [hzc] at d1
        have hkk : kc.size ≤ 281474976710656 := hks (kc, zc) (by simp [q8])
        obtain ⟨gko, hgo⟩ : ∃ gko, gk = gko + 1 := ⟨gk - 1, by omega⟩
        subst hgo
        have hroom : roomE al z (gko + 1) x'.tE x'.kE = ((roomE al z gko x'.tE.dropLast x'.kE).1, (roomE al z gko x'.tE.dropLast x'.kE).2.1, kc :: (roomE al z gko x'.tE.dropLast x'.kE).2.2) := by
          rw [roomE, hsT, hsK, if_pos hc]; rw [q3]
        rw [hroom] at hr1 hr2 hr3
        simp only at hr1 hr2 hr3
        have HDR := Lib.hid (fun (W : World) (hW : Below W0.heap.size W0 W) => drop_any W g n al ke mo x' ((hst.sm sm0).below hW) kc hkk)
        have hlt := fun b hb => (hst.sm sm0).lt (b := b) hb
        have HLT := Lib.hid hlt
        have HW0 := Lib.hid (show Chg (x.own g) w W0 from hchg.trans (sm0.chg _))
        have HOT0 := Lib.hid (show OT w.heap.size W0 u5 gone from hot.keep fun q hq => by rw [sm0.heap])
        have HOWN := Lib.hid hown
        have HR1 := Lib.hid hr1
        have HR2 := Lib.hid hr2
        have HR3 := Lib.hid hr3
        have HGL := Lib.hid hln
        have HGK := Lib.hid hgk
        have HKS1 := Lib.hid hks
        have Q1 := Lib.hid q1
        have Q2 := Lib.hid q2
        have HLEN := Lib.hid (show x'.tE.dropLast.length + x'.kE.length = gko by omega)
        have qe := fun W => en_eq kc zc q7 W
        have qz := en_eq0
        have HL0 := Lib.hid (last_any W0 g 4 x'.e0 c b4 y3)
        clear hst hot hgk hln hr1 hr2 hr3 hown hchg hks hsT hsK hc sm0 hW0 hlt hroom q1 q2 q3 q4 q5 q6 q7 q8 hkk hkc hzc hL hnw
        go_wp2_with fail
        refine HL0.out.mono ?_
        rintro e w' ⟨rfl, rfl⟩
        go_wp2_with fail
        obtain ⟨W1, hW1⟩ : ∃ W1, W0.alloc (.cells #[.string kc, .int .i64 zc] 127) = W1 := ⟨_, rfl⟩
        have hb1 : Below W0.heap.size W0 W1 := by rw [← hW1]; exact (Below.refl _ _).alloc (Nat.le_refl _) _
        have hk1 : Bk W1 W0.heap.size 127 #[.string kc, .int .i64 zc] := by rw [← hW1]; exact Bk.new _ _ _
        rw [hW1]
        clear hW1
        refine (HDR.out W1 hb1).mono ?_
        rintro e w2 ⟨rfl, x2, s1, s2, s3, s4, s5, s6⟩
        have hk2 := hk1.chg s5 (fun e => by have := HLT.out _ e; omega)
        have z0 : w2.cell? ⟨W0.heap.size, 0, none⟩ = some (.string kc) := hk2.cell 0
        have hot2 : OT w.heap.size w2 u5 gone := (HOT0.out.below hb1).chg s5 (fun q hq e => by have h1 := (World.ownsRow.lt HOT0.out q hq).1; have h2 := HH.out.lt (HOWN.out _ e); omega)
        have HOT2 := Lib.hid hot2
        have HC2 := Lib.hid (show Chg (x.own g) w w2 from HW0.out.trans ((Chg.of_below hb1).trans (s5.mono fun b _ hb => HOWN.out b hb)))
        have HS2 := Lib.hid (show St w2 g n al ke mo x2 from s1)
        have HT2 := Lib.hid s2
        have HK2 := Lib.hid s3
        have HO2 := Lib.hid (show ∀ y, x2.own g y → x.own g y from fun y hy => HOWN.out y (s4 y hy))
        have HWS := Lib.hid (show w.heap.size ≤ w2.heap.size from HC2.out.size)
        clear hb1 hk1 hk2 hot2 s1 s2 s3 s4 s5 s6
        go_wp2_with (at_builtin; refine wpList_app_text w.heap.size u5 gone kc w2.heap.size rfl _ _ rfl rfl (HOT2.out.below ((Below.refl _ _).alloc (Nat.le_refl _) _)) rfl (Bk.new w2 _ _) (by have := HGL.out; have := HN.out; omega) (by have := HWS.out; simp; omega) ?_; intro g9 cap9 w9 o9 gr9)
        have HO9 := Lib.hid o9
        have HG9 := Lib.hid gr9
        clear o9 gr9
        go_wp2
        go_roundg gko
        case measure => exact Nat.lt_succ_self _
        case rel =>
          have hgr : ∀ b, b < w2.heap.size → (∀ k, u5.ownBlock = some k → b ≠ k) → w9.heap[b]? = w2.heap[b]? := fun b hb hn => (HG9.out.block b (by simp; omega) (fun e => hn b e.symm rfl)).trans (Below.heap_alloc _ _ _ hb)
          have hnr : ∀ b, x.own g b → ∀ k, u5.ownBlock = some k → b ≠ k := fun b hb k hk e => by have h1 := (World.ownsRow.lt HOT0.out k hk).1; have h2 := HH.out.lt hb; omega
          refine ⟨x2, gone ++ [kc], HS2.out.keep fun b hb => hgr b (HS2.out.lt hb) (hnr b (HO2.out b hb)), ?_, ?_, ?_, ?_, ?_, ?_, HO2.out, ?_, ?_⟩
          · have := HO9.out
            simpa using this
          · rw [HT2.out, HK2.out]
            rw [Q1.out, Q2.out]; exact HLEN.out
          · have := HGL.out; simp; omega
          · rw [HT2.out, HK2.out, Q1.out, Q2.out]; exact HR1.out
          · rw [HT2.out, HK2.out, Q1.out, Q2.out]; exact HR2.out
          · rw [HT2.out, HK2.out, Q1.out, Q2.out, List.append_assoc]; exact HR3.out
          · exact ((HC2.out.alloc _).grown HG9.out fun k hk hlt => by have h1 := (World.ownsRow.lt HOT0.out k hk).1; omega)
          · intro y hy
            rw [HT2.out, HK2.out] at hy
            refine HKS1.out y ?_
            rcases List.mem_append.1 hy with h0 | h0
            · exact List.mem_append.2 (.inl (List.mem_filter.1 h0).1)
            · exact List.mem_append.2 (.inr (List.mem_filter.1 h0).1)
    · have w5 : decide (al < sT + sK + z) = false := decide_eq_false hc
      have hfin : ∀ N, RoomP g n al ke mo x R w (.returned u5) (wr.drewN N) := by
        have e : roomE al z gk x'.tE x'.kE = (x'.tE, x'.kE, []) := by
          cases gk with
          | zero => rfl
          | succ gk => unfold roomE; rw [hsT, hsK, if_neg hc]
        rw [e] at hr1 hr2 hr3
        exact fun N => ⟨u5, x', rfl, (by rw [← hr3, List.append_nil]; exact hot : OT w.heap.size wr u5 R.2.2), hst.sm ⟨rfl, rfl, rfl, rfl⟩, hr1, hr2, hown, hchg.drewN N⟩
      have HFIN := Lib.hid hfin
      clear hst hot hgk hln hr1 hr2 hr3 hown hchg hks hsT hsK hc hfin
      go_wp2
      go_quiet ((go_at_call 60; first | (with_reducible exact Calls.quiet_of (HBF.out _)) | (with_reducible exact Calls.quiet_of (HBT.out _))))
      go_wp2
      go_ret
      exact HFIN.out _
end Go.Proofs.YtjngangojgjceaaGreat.SL
