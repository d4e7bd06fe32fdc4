/- Package line in a law: what each call leaves; the known calls of layer 16. Conditions: as each. -/
import Derived.Test.YtckodebcigmkgaaLnh
namespace Go.Proofs.Ytckodebcigmkgaa.LN
open Go.ChangeShapes Go.WideShapes Go.ChangeAt Go.RowKit
open Go.Proofs.Ytckodebcigmkgaa.SL Go.Proofs.Ytckodebcigmkgaa.RW
set_option maxRecDepth 100000
set_option linter.unusedVariables false
set_option linter.unusedSimpArgs false

structure LS (B a most : Nat) (l : List Wt) (w w' : World) : Prop where
  lb : LN B w' a most l
  bel : Below B w w'
  kf : Kf w w'
section
variable {B : Nat} {w w' : World} {a most : Nat} {l : List Wt}
theorem LN.le (h : LN B w a most l) : B ≤ w.heap.size := by
  obtain ⟨v, h⟩ := h
  have := h.ab
  have := h.bk.lt
  omega
theorem LN.len (h : LN B w a most l) : l.length ≤ most ∧ most ≤ 10000 := by
  obtain ⟨v, h⟩ := h
  exact ⟨h.le, h.ma⟩
theorem LN.nil_no (h : LN B w a most l) : w.cell? ⟨a, 0, none⟩ = some (ptr a) := by
  obtain ⟨v, h⟩ := h
  exact h.cells.1
theorem chg_below {v : Value} (h : LC B w a most v l) (hc : Chg (fun b => b = a) w w') : Below B w w' :=
  hc.below (by have := h.ab; have := h.bk.lt; omega) fun b hb e => by have := h.ab; omega
theorem ln_new (w : World) (n : Nat) (h1 : 1 ≤ n) (h2 : n ≤ 10000) :
    Calls Try.prog 8 #[nV (n : Int)] w fun e w' => ∃ a, e = .returned (.tuple #[ptr a, nV 0]) ∧ LN w.heap.size w' a n [] ∧ Below w.heap.size w w' := by
  refine (new_yes w n h1 h2).mono ?_
  rintro e w' ⟨a, rfl, h, hb⟩
  exact ⟨a, rfl, ⟨_, h⟩, hb⟩
theorem ln_join (h : LN B w a most l) (id till : Int) :
    Calls Try.prog 10 #[ptr a, nV id, nV till] w fun e w' => e = .returned (nV (joinS most l id till).2) ∧ LS B a most (joinS most l id till).1 w w' := by
  have hB := h.le
  obtain ⟨v, h⟩ := h
  refine (join_any h id till hB).mono ?_
  rintro e w' ⟨rfl, h1, h2⟩
  exact ⟨rfl, h1, h2.below h, h2.kf h⟩
theorem ln_first (h : LN B w a most l) :
    Calls Try.prog 12 #[ptr a] w fun e w' => e = .returned (.tuple #[nV (firstS l).2.1, .bool (firstS l).2.2]) ∧ LS B a most (firstS l).1 w w' := by
  have hB := h.le
  obtain ⟨v, h⟩ := h
  refine (first_any h hB).mono ?_
  rintro e w' ⟨rfl, h1, h2⟩
  exact ⟨rfl, h1, chg_below h h2, kf_chg h2 h⟩
theorem ln_leave (h : LN B w a most l) (id : Int) :
    Calls Try.prog 14 #[ptr a, nV id] w fun e w' => e = .returned (.bool (leaveS l id).2) ∧ LS B a most (leaveS l id).1 w w' := by
  have hB := h.le
  obtain ⟨v, h⟩ := h
  refine (leave_any h hB id).mono ?_
  rintro e w' ⟨rfl, h1, h2⟩
  exact ⟨rfl, h1, chg_below h h2, kf_chg h2 h⟩
theorem ln_late (h : LN B w a most l) (now : Int) :
    Calls Try.prog 17 #[ptr a, nV now] w fun e w' => ∃ r, e = .returned r ∧ IS w' r (lateS l now).2 ∧ LS B a most (lateS l now).1 w w' := by
  have hB := h.le
  obtain ⟨v, h⟩ := h
  refine (late_any h hB now).mono ?_
  rintro e w' ⟨r, rfl, h0, h1, h2⟩
  exact ⟨r, rfl, h0.is, h1, chg_below h h2, kf_chg h2 h⟩
theorem ln_place (h : LN B w a most l) (id : Int) : Calls Try.prog 20 #[ptr a, nV id] w (RdP (nV (placeS l id)) w) := by
  obtain ⟨v, h⟩ := h
  exact place_any h id
theorem ln_all (h : LN B w a most l) : Calls Try.prog 22 #[ptr a] w fun e w' => ∃ r, e = .returned r ∧ IS w' r (l.map (·.1)) ∧ Below w.heap.size w w' := by
  obtain ⟨v, h⟩ := h
  refine (all_any h).mono ?_
  rintro e w' ⟨r, rfl, h0, h1⟩
  exact ⟨r, rfl, h0.is, h1⟩
end
theorem IS.one (w : World) (k : Int) : IS (w.alloc (.cells #[nV k] 3)) (.slice (some ⟨w.heap.size, 0, none⟩) 1 1) [k] :=
  .inr ⟨w.heap.size, 0, 1, #[nV k], (0, 0), rfl, Nat.le_refl _, heap_alloc_new w _, fun i x hi => by
    cases i with
    | zero => simp at hi; subst hi; rfl
    | succ i => simp at hi⟩
theorem j1 : joinS 3 [] 1 5 = ([(1, 5)], 0) := by decide
theorem j2 : joinS 3 [(1, 5)] 2 3 = ([(1, 5), (2, 3)], 0) := by decide
theorem j3 : joinS 3 [(1, 5), (2, 3)] 3 9 = ([(1, 5), (2, 3), (3, 9)], 0) := by decide
theorem j4 : joinS 3 [(1, 5), (2, 3), (3, 9)] 2 9 = ([(1, 5), (2, 3), (3, 9)], 9) := by decide
theorem j5 : joinS 3 [(1, 5), (2, 3), (3, 9)] 4 9 = ([(1, 5), (2, 3), (3, 9)], 11) := by decide
theorem j6 : lateS [(1, 5), (2, 3), (3, 9)] 4 = ([(1, 5), (3, 9)], [2]) := by decide
theorem j7 : placeS [(1, 5), (3, 9)] 3 = 1 := by decide
theorem j8 : firstS [(1, 5), (3, 9)] = ([(3, 9)], 1, true) := by decide
theorem j9 : leaveS [(3, 9)] 3 = ([], true) := by decide
theorem j10 : leaveS [] 3 = ([], false) := by decide
theorem j11 : placeS [] 3 = -1 := by decide
set_option maxHeartbeats 16000000 in
theorem known_any (w : World) : Calls Try.prog 24 #[] w (RdP (.bool true) w) := by
  go_enter Try.func24, Try.ntmps24
  go_wp2_with fail
  refine (ln_new w 3 (by omega) (by omega)).mono ?_
  rintro e w1 ⟨a, rfl, hl, hb⟩
  have HL := Lib.hid hl
  have HB := Lib.hid hb
  clear hl hb
  go_wp2_with fail
  refine (new_no w1 0 (.inl (by omega))).mono ?_
  rintro e w1' ⟨rfl, rfl⟩
  have HC := Lib.hid (ln_join HL.out 1 5)
  rw [j1] at HC
  go_wp2_with fail
  refine HC.out.mono ?_
  rintro e w2 ⟨rfl, hs⟩
  have HL := Lib.hid hs.lb
  have HB := Lib.hid (HB.out.trans hs.bel)
  clear hs HC
  have HC := Lib.hid (ln_join HL.out 2 3)
  rw [j2] at HC
  go_wp2_with fail
  refine HC.out.mono ?_
  rintro e w3 ⟨rfl, hs⟩
  have HL := Lib.hid hs.lb
  have HB := Lib.hid (HB.out.trans hs.bel)
  clear hs HC
  have HC := Lib.hid (ln_join HL.out 3 9)
  rw [j3] at HC
  go_wp2_with fail
  refine HC.out.mono ?_
  rintro e w4 ⟨rfl, hs⟩
  have HL := Lib.hid hs.lb
  have HB := Lib.hid (HB.out.trans hs.bel)
  clear hs HC
  have HC := Lib.hid (ln_join HL.out 2 9)
  rw [j4] at HC
  go_wp2_with fail
  refine HC.out.mono ?_
  rintro e w5 ⟨rfl, hs⟩
  have HL := Lib.hid hs.lb
  have HB := Lib.hid (HB.out.trans hs.bel)
  clear hs HC
  have HC := Lib.hid (ln_join HL.out 4 9)
  rw [j5] at HC
  go_wp2_with fail
  refine HC.out.mono ?_
  rintro e w6 ⟨rfl, hs⟩
  have HL := Lib.hid hs.lb
  have HB := Lib.hid (HB.out.trans hs.bel)
  clear hs HC
  have HC := Lib.hid (ln_late HL.out 4)
  rw [j6] at HC
  go_wp2_with fail
  refine HC.out.mono ?_
  rintro e w7 ⟨r7, rfl, hi, hs⟩
  have HL := Lib.hid hs.lb
  have HB := Lib.hid (HB.out.trans hs.bel)
  have HI := Lib.hid hi
  obtain ⟨ra, rc, rfl⟩ := hi.form
  clear hi
  clear hs HC
  have HC := Lib.hid (ln_place HL.out 3)
  rw [j7] at HC
  go_wp2_with fail
  refine HC.out.mono ?_
  rintro e w8 ⟨rfl, hb⟩
  have HL := Lib.hid (HL.out.below hb)
  have HI := Lib.hid (HI.out.below hb)
  have HB := Lib.hid (HB.out.trans (hb.mono HB.out.size))
  clear hb HC
  have HC := Lib.hid (ln_first HL.out)
  rw [j8] at HC
  go_wp2_with fail
  refine HC.out.mono ?_
  rintro e w9 ⟨rfl, hs⟩
  have HI := Lib.hid (HI.out.ki hs.kf.ki)
  have HL := Lib.hid hs.lb
  have HB := Lib.hid (HB.out.trans hs.bel)
  clear hs HC
  have ba : Below w9.heap.size w9 (w9.alloc (.cells #[nV 2] 3)) := (Below.refl _ _).alloc (Nat.le_refl _) _
  have HC := Lib.hid (ints_any (w9.alloc (.cells #[nV 2] 3)) _ _ [2] [2] (HI.out.below ba) (IS.one w9 2) (by simp))
  rw [show decide (([2] : List Int) = [2]) = true by decide] at HC
  have HL := Lib.hid (HL.out.below ba)
  have HB := Lib.hid (HB.out.trans (ba.mono HB.out.size))
  clear ba
  go_wp2_with fail
  refine HC.out.mono ?_
  rintro e w10 ⟨rfl, hb⟩
  have HL := Lib.hid (HL.out.below hb)
  have HB := Lib.hid (HB.out.trans (hb.mono HB.out.size))
  clear hb HC HI
  have HC := Lib.hid (ln_all HL.out)
  go_wp2_with fail
  refine HC.out.mono ?_
  rintro e w11 ⟨r11, rfl, hi, hb⟩
  have ba : Below w11.heap.size w11 (w11.alloc (.cells #[nV 3] 3)) := (Below.refl _ _).alloc (Nat.le_refl _) _
  have HL := Lib.hid ((HL.out.below hb).below ba)
  have HB := Lib.hid ((HB.out.trans (hb.mono HB.out.size)).trans (ba.mono (HB.out.trans (hb.mono HB.out.size)).size))
  obtain ⟨r3, hr3⟩ : ∃ r : List Int, [3] = r := ⟨_, rfl⟩
  have HI : Hid (IS w11 r11 [3]) := Lib.hid hi
  have HC := Lib.hid (ints_any (w11.alloc (.cells #[nV 3] 3)) _ _ [3] [3] (HI.out.below ba) (IS.one w11 3) (by simp))
  rw [show decide (([3] : List Int) = [3]) = true by decide] at HC
  clear hi hb ba hr3
  go_wp2_with fail
  refine HC.out.mono ?_
  rintro e w12 ⟨rfl, hb⟩
  have HL := Lib.hid (HL.out.below hb)
  have HB := Lib.hid (HB.out.trans (hb.mono HB.out.size))
  clear hb HC HI
  have HC := Lib.hid (ln_leave HL.out 3)
  rw [j9] at HC
  go_wp2_with fail
  refine HC.out.mono ?_
  rintro e w13 ⟨rfl, hs⟩
  have HL := Lib.hid hs.lb
  have HB := Lib.hid (HB.out.trans hs.bel)
  clear hs HC
  have HC := Lib.hid (ln_leave HL.out 3)
  rw [j10] at HC
  go_wp2_with fail
  refine HC.out.mono ?_
  rintro e w14 ⟨rfl, hs⟩
  have HL := Lib.hid hs.lb
  have HB := Lib.hid (HB.out.trans hs.bel)
  clear hs HC
  have HC := Lib.hid (ln_place HL.out 3)
  rw [j11] at HC
  go_wp2_with fail
  refine HC.out.mono ?_
  rintro e w15 ⟨rfl, hb⟩
  have HB := Lib.hid (HB.out.trans (hb.mono HB.out.size))
  clear hb HC
  go_wp2
  go_ret
  exact ⟨rfl, HB.out⟩
end Go.Proofs.Ytckodebcigmkgaa.LN
