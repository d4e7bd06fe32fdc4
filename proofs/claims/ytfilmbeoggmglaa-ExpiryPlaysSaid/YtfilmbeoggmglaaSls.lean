/- What package slru's laid, made, New and add make. Conditions: how long the key is, that it is new, that there is room. -/
import Derived.Test.YtfilmbeoggmglaaSlr
namespace Go.Proofs.Ytfilmbeoggmglaa.SL
open Go.ChangeShapes Go.WideShapes Go.ChangeAt Go.RowKit Go.Maps Go.ChangeMaps
set_option maxRecDepth 100000
set_option linter.unusedVariables false
set_option linter.unusedSimpArgs false

def endN (p : Nat) : Nd := ⟨ByteArray.empty, 0, 0, some p, some p⟩
def LaidP (w : World) (e : Ending) (w' : World) : Prop := ∃ p, e = .returned (.agg #[ptr p, .int .i64 0]) ∧ Bk w' p 92 (pc (endN p)) ∧ w.heap.size ≤ p ∧ Below w.heap.size w w'
theorem Bk.new1 (w : World) (o : Obj) (t : TypeId) (cs : Array Value) : Bk ((w.alloc o).alloc (.cells cs t)) (w.heap.size + 1) t cs := by
  have := Bk.new (w.alloc o) t cs
  rw [show (w.alloc o).heap.size = w.heap.size + 1 by simp] at this
  exact this
set_option maxHeartbeats 1000000 in
theorem laid_any (w : World) : Calls Try.prog 66 #[] w (LaidP w) := by
  go_enter Try.func66, Try.ntmps66
  go_wp2
  refine bodyPost_ret (v := .agg #[ptr (w.heap.size + 1), .int .i64 0]) (by simp [results, Try.results66, go_sem]) rfl ⟨w.heap.size + 1, rfl, ?_, by omega, ?_⟩
  · exact Bk.new1 _ _ _ _
  · exact ((Below.refl _ _).alloc (Nat.le_refl _) _).alloc (by simp) _
theorem Bk.below {w w' : World} {g : Nat} {t : TypeId} {cs : Array Value} (h : Bk w g t cs) (hb : Below w.heap.size w w') : Bk w' g t cs := (hb.block g h.lt).trans h
theorem MapP.below {w w' : World} {b n : Nat} {f : ByteArray → Option Nat} (h : MapP w b n f) (hb : Below w.heap.size w w') : MapP w' b n f := h.keep (hb.block b h.lt)
def MadeP (al ke mo : Int) (w : World) (e : Ending) (w' : World) : Prop :=
  ∃ g x, e = .returned (ptr g) ∧ St w' g 0 al ke mo x ∧ x.tE = [] ∧ x.kE = [] ∧ (∀ b, x.own g b → w.heap.size ≤ b) ∧ Below w.heap.size w w'
theorem made_st {w' : World} {g mb p0 p1 : Nat} {al ke mo : Int} (hg : Bk w' g 82 (cel g al ke mo p0 p1 mb 0 0)) (h0 : Bk w' p0 92 (pc (endN p0))) (h1 : Bk w' p1 92 (pc (endN p1))) (hm : MapP w' mb 0 fun _ => none) (hne : p0 ≠ p1) :
    St w' g 0 al ke mo ⟨p0, p1, mb, [], [], endN, fun _ => none⟩ :=
  ⟨hg, fun b hb => by
    rcases hb with rfl | rfl | hb | hb
    · exact h0
    · exact h1
    · simp at hb
    · simp at hb,
   ⟨⟨rfl, rfl, trivial⟩, ⟨rfl, rfl, trivial⟩, by simp, by simp, fun b hb hc => by
      rcases hb with rfl | hb
      · rcases hc with hc | hc
        · exact hne hc
        · simp at hc
      · simp at hb, ⟨rfl, rfl⟩, ⟨rfl, rfl⟩, fun b hb => by simp at hb, fun b hb => by simp at hb, fun b hb => by simp at hb, fun b c hb => by simp at hb⟩,
   hm, fun k b => by simp, by simp [Sx.tE, Sx.kE, en, sumE], by omega⟩
set_option maxHeartbeats 2000000 in
theorem made_any (al ke mo : Int) (w : World) : Calls Try.prog 41 #[.int .i64 al, .int .i64 ke, .int .i64 mo] w (MadeP al ke mo w) := by
  have hmm := @run_makeMap Try.prog
  go_enter Try.func41, Try.ntmps41
  go_wp2_with fail
  obtain ⟨W2, hW2⟩ : ∃ W2, (w.alloc (.map #[] 0)).alloc (.cells #[ptr (w.heap.size + 1), .int .i64 al, .int .i64 ke, .int .i64 mo, .pointer none, .int .i64 0, .pointer none, .int .i64 0, .map (some w.heap.size)] 82) = W2 := ⟨_, rfl⟩
  have k2 : Bk W2 (w.heap.size + 1) 82 #[ptr (w.heap.size + 1), .int .i64 al, .int .i64 ke, .int .i64 mo, .pointer none, .int .i64 0, .pointer none, .int .i64 0, .map (some w.heap.size)] := by rw [← hW2]; exact Bk.new1 _ _ _ _
  have m2 : MapP W2 w.heap.size 0 fun _ => none := by rw [← hW2]; exact (MapP.made w).keep (Below.heap_alloc _ _ _ (by simp))
  have b2 : Below w.heap.size w W2 := by rw [← hW2]; exact ((Below.refl _ _).alloc (Nat.le_refl _) _).alloc (by simp) _
  have s2 : W2.heap.size = w.heap.size + 2 := by rw [← hW2]; simp
  rw [hW2]
  have K2 := Lib.hid k2
  have M2 := Lib.hid m2
  have B2 := Lib.hid b2
  have S2 := Lib.hid s2
  clear hW2 k2 m2 b2 s2
  refine (laid_any _).mono ?_
  rintro e w3 ⟨p0, rfl, hp0, hl0, hb3⟩
  have K3 := Lib.hid (K2.out.below hb3)
  have M3 := Lib.hid (M2.out.below hb3)
  have B3 := Lib.hid (B2.out.trans (hb3.mono B2.out.size))
  have P0 := Lib.hid hp0
  have L01 := Lib.hid hp0.lt
  have L0 := Lib.hid hl0
  have S3 := Lib.hid (show W2.heap.size ≤ w3.heap.size from hb3.size)
  clear hp0 hl0 hb3
  go_wp2_with fail
  refine (laid_any _).mono ?_
  rintro e w4 ⟨p1, rfl, hp1, hl1, hb4⟩
  have K4 := Lib.hid (K3.out.below hb4)
  have M4 := Lib.hid (M3.out.below hb4)
  have B4 := Lib.hid (B3.out.trans (hb4.mono B3.out.size))
  have P0 := Lib.hid (P0.out.below hb4)
  have P1 := Lib.hid hp1
  have L1 := Lib.hid hl1
  have f4 := K4.out.frozen
  have c4 : ∀ i, w4.cell? ⟨w.heap.size + 1, i, none⟩ = _ := fun i => K4.out.cell i
  have q4 : w4.cell? ⟨w.heap.size + 1, 4, none⟩ = some (.pointer none) := c4 4
  have q5 : w4.cell? ⟨w.heap.size + 1, 5, none⟩ = some (.int .i64 0) := c4 5
  have q6 : w4.cell? ⟨w.heap.size + 1, 6, none⟩ = some (.pointer none) := c4 6
  have q7 : w4.cell? ⟨w.heap.size + 1, 7, none⟩ = some (.int .i64 0) := c4 7
  have g4 := f4 4
  have g5 := f4 5
  have g6 := f4 6
  have g7 := f4 7
  clear hp1 hl1 hb4 f4 c4
  go_wp2
  go_ret
  have hs2 := S2.out
  have hl0 := L0.out
  have hl1 := L1.out
  have hl01 := L01.out
  have hs3 := S3.out
  have n0 : p0 ≠ w.heap.size + 1 := by omega
  have n1 : p1 ≠ w.heap.size + 1 := by omega
  have n01 : p0 ≠ p1 := by omega
  refine ⟨w.heap.size + 1, ⟨p0, p1, w.heap.size, [], [], endN, fun _ => none⟩, rfl, made_st ((((K4.out.set_ 4 _).set_ 5 _).set_ 6 _).set_ 7 _) ((((P0.out.far n0 _).far n0 _).far n0 _).far n0 _) ((((P1.out.far n1 _).far n1 _).far n1 _).far n1 _) ?_ n01, rfl, rfl, ?_, ?_⟩
  · exact M4.out.keep (by simp [World.setCell, Array.getElem?_modify])
  · intro b hb
    rcases hb with rfl | rfl | rfl | rfl | hb | hb
    · omega
    · exact Nat.le_refl _
    · show w.heap.size ≤ b; omega
    · show w.heap.size ≤ b; omega
    · simp at hb
    · simp at hb
  · exact (((B4.out.setCell (p := ⟨w.heap.size + 1, 4, none⟩) (by simp) _).setCell (p := ⟨w.heap.size + 1, 5, none⟩) (by simp) _).setCell (p := ⟨w.heap.size + 1, 6, none⟩) (by simp) _).setCell (p := ⟨w.heap.size + 1, 7, none⟩) (by simp) _
/-- can these be budgets? -/
def okB (al ke mo : Int) : Prop := 1 ≤ al ∧ al ≤ 1073741824 ∧ 0 ≤ ke ∧ ke ≤ al ∧ 1 ≤ mo ∧ mo ≤ al
def NewP (al ke mo : Int) (w : World) (e : Ending) (w' : World) : Prop :=
  ∃ g x, e = .returned (.tuple #[ptr g, .int .i64 0]) ∧ St w' g 0 al ke mo x ∧ x.tE = [] ∧ x.kE = [] ∧ (∀ b, x.own g b → w.heap.size ≤ b) ∧ Below w.heap.size w w'
set_option maxHeartbeats 1000000 in
theorem new_yes (al ke mo : Int) (w : World) (h : okB al ke mo) : Calls Try.prog 9 #[.int .i64 al, .int .i64 ke, .int .i64 mo] w (NewP al ke mo w) := by
  obtain ⟨h1, h2, h3, h4, h5, h6⟩ := h
  have a1 : decide (al < 1) = false := by simp; omega
  have a2 : decide (1073741824 < al) = false := by simp; omega
  have a3 : decide (ke < 0) = false := by simp; omega
  have a4 : decide (al < ke) = false := by simp; omega
  have a5 : decide (mo < 1) = false := by simp; omega
  have a6 : decide (al < mo) = false := by simp; omega
  have HM := Lib.hid (made_any al ke mo w)
  clear h1 h2 h3 h4 h5 h6
  go_enter Try.func9, Try.ntmps9
  go_wp2_with (go_at_call 41; refine HM.out.mono ?_; rintro e w' ⟨g, x, rfl, h1, h2, h3, h4, h5⟩)
  go_ret2
  exact ⟨g, x, rfl, h1, h2, h3, h4, h5⟩
set_option maxHeartbeats 2000000 in
theorem new_no (al ke mo : Int) (w : World) (h : ¬ okB al ke mo) : Calls Try.prog 9 #[.int .i64 al, .int .i64 ke, .int .i64 mo] w fun e w' => e = .returned (.tuple #[.pointer none, .int .i64 1]) ∧ w = w' := by
  by_cases c0 : al < 1
  · have b0 : decide (al < 1) = true := decide_eq_true c0
    clear h c0
    go_enter Try.func9, Try.ntmps9
    go_wp2
    go_ret2
    exact ⟨rfl, rfl⟩
  have a0 : decide (al < 1) = false := decide_eq_false c0
  by_cases c1 : 1073741824 < al
  · have b1 : decide (1073741824 < al) = true := decide_eq_true c1
    clear h c0 c1
    go_enter Try.func9, Try.ntmps9
    go_wp2
    go_ret2
    exact ⟨rfl, rfl⟩
  have a1 : decide (1073741824 < al) = false := decide_eq_false c1
  by_cases c2 : ke < 0
  · have b2 : decide (ke < 0) = true := decide_eq_true c2
    clear h c0 c1 c2
    go_enter Try.func9, Try.ntmps9
    go_wp2
    go_ret2
    exact ⟨rfl, rfl⟩
  have a2 : decide (ke < 0) = false := decide_eq_false c2
  by_cases c3 : al < ke
  · have b3 : decide (al < ke) = true := decide_eq_true c3
    clear h c0 c1 c2 c3
    go_enter Try.func9, Try.ntmps9
    go_wp2
    go_ret2
    exact ⟨rfl, rfl⟩
  have a3 : decide (al < ke) = false := decide_eq_false c3
  by_cases c4 : mo < 1
  · have b4 : decide (mo < 1) = true := decide_eq_true c4
    clear h c0 c1 c2 c3 c4
    go_enter Try.func9, Try.ntmps9
    go_wp2
    go_ret2
    exact ⟨rfl, rfl⟩
  have a4 : decide (mo < 1) = false := decide_eq_false c4
  by_cases c5 : al < mo
  · have b5 : decide (al < mo) = true := decide_eq_true c5
    clear h c0 c1 c2 c3 c4 c5
    go_enter Try.func9, Try.ntmps9
    go_wp2
    go_ret2
    exact ⟨rfl, rfl⟩
  have a5 : decide (al < mo) = false := decide_eq_false c5
  exact absurd ⟨by omega, by omega, by omega, by omega, by omega, by omega⟩ h
end Go.Proofs.Ytfilmbeoggmglaa.SL
