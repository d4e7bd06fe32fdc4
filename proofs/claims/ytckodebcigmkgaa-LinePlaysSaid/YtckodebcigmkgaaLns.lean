/- Two lines in a law, the code's and the document's: what each call leaves of both; a copy beside its elder. Conditions: as each. -/
import Derived.Test.YtckodebcigmkgaaLnr
namespace Go.Proofs.Ytckodebcigmkgaa.LN
open Go.ChangeShapes Go.WideShapes Go.ChangeAt Go.RowKit
open Go.Proofs.Ytckodebcigmkgaa.SL Go.Proofs.Ytckodebcigmkgaa.RW
set_option maxRecDepth 100000
set_option linter.unusedVariables false
set_option linter.unusedSimpArgs false

/-- all cells but those of the document's lines are as they were -/
def Kr (w w' : World) : Prop := ∀ (b : Nat) (cs : Array Value) (t : TypeId) (fr : Nat × Nat), t ≠ 56 → t ≠ 60 → w.heap[b]? = some (.cells cs t fr) → w'.heap[b]? = w.heap[b]?
theorem Kr.bk {w w' : World} {g : Nat} {t : TypeId} {cs : Array Value} (h : Kr w w') (hb : Bk w g t cs) (ht : t ≠ 56 := by decide) (hu : t ≠ 60 := by decide) : Bk w' g t cs := (h g cs t (0, 0) ht hu hb).trans hb
theorem Kr.ki {w w' : World} (h : Kr w w') : Ki w w' := fun b cs fr hb => h b cs _ fr (by decide) (by decide) hb
theorem Kr.below {w w' : World} (h : Below w.heap.size w w') : Kr w w' := fun b cs t fr _ _ hb => h.block b (Array.getElem?_eq_some_iff.1 hb).1
def RN (B : Nat) (w : World) (r most : Nat) (l : List Wt) : Prop := ∃ v, RC B w r most v l
structure RS (B r most : Nat) (l : List Wt) (w w' : World) : Prop where
  rb : RN B w' r most l
  bel : Below B w w'
  kr : Kr w w'
section
variable {B : Nat} {w w' : World} {a r most : Nat} {l : List Wt}
theorem RN.le (h : RN B w r most l) : B ≤ w.heap.size := by
  obtain ⟨v, h⟩ := h
  have := h.rb
  have := h.bk.lt
  omega
theorem RN.below (h : RN B w r most l) (hb : Below w.heap.size w w') : RN B w' r most l := by
  obtain ⟨v, h⟩ := h
  exact ⟨v, h.below hb⟩
theorem RN.mono (h : RN B w r most l) {B' : Nat} (hB : B' ≤ B) : RN B' w r most l := by
  obtain ⟨v, h⟩ := h
  exact ⟨v, h.bk, h.ws.mono hB, h.le, h.ma, Nat.le_trans hB h.rb⟩
/-- the code's calls leave the document's line -/
theorem RN.kf (h : RN B w r most l) (hk : Kf w w') : RN B w' r most l := by
  obtain ⟨v, h⟩ := h
  refine ⟨v, h.keep (hk r _ _ _ (by decide) (by decide) h.bk) fun g hg => ?_⟩
  obtain ⟨cur, hc⟩ := h.ws.ty g hg
  exact hk g _ _ _ (by decide) (by decide) hc
theorem LC.kr {v : Value} (h : LC B w a most v l) (hk : Kr w w') : LC B w' a most v l := by
  refine h.keep (hk a _ _ _ (by decide) (by decide) h.bk) fun g hg => ?_
  obtain ⟨cur, hc⟩ := h.ws.ty g hg
  exact hk g _ _ _ (by decide) (by decide) hc
/-- the document's calls leave the code's line -/
theorem LN.kr (h : LN B w a most l) (hk : Kr w w') : LN B w' a most l := by
  obtain ⟨v, h⟩ := h
  exact ⟨v, h.kr hk⟩
theorem RC.kr_of {v : Value} (h : RC B w r most v l) (hc : Chg (fun b => b = r ∨ v.ownBlock = some b) w w') : Kr w w' := fun b cs t fr ht hu hb => hc.block b (Array.getElem?_eq_some_iff.1 hb).1 fun e => by
  rcases e with rfl | e
  · have := h.bk
    unfold Bk at this
    rw [hb] at this
    injection this with this
    injection this with _ this
    exact ht this
  · obtain ⟨cur, hc⟩ := h.ws.ty b e
    rw [hb] at hc
    injection hc with hc
    injection hc with _ hc
    exact hu hc
theorem RC.bel_of {v : Value} (h : RC B w r most v l) (hc : Chg (fun b => b = r ∨ v.ownBlock = some b) w w') : Below B w w' := hc.below (by have := h.rb; have := h.bk.lt; omega) fun b hb e => by
  rcases e with rfl | e
  · have := h.rb; omega
  · have := (h.ws.lt b e).1; omega
theorem rn_join (h : RN B w r most l) (id till : Int) :
    Calls Try.prog 11 #[ptr r, nV id, nV till] w fun e w' => e = .returned (nV (joinS most l id till).2) ∧ RS B r most (joinS most l id till).1 w w' := by
  have hB := h.le
  obtain ⟨v, h⟩ := h
  refine (rjoin_any h id till hB).mono ?_
  rintro e w' ⟨rfl, h1, h2⟩
  exact ⟨rfl, h1, h.bel_of h2, h.kr_of h2⟩
theorem rn_first (h : RN B w r most l) (hd : Nd l) :
    Calls Try.prog 13 #[ptr r] w fun e w' => e = .returned (.tuple #[nV (firstS l).2.1, .bool (firstS l).2.2]) ∧ RS B r most (firstS l).1 w w' := by
  have hB := h.le
  obtain ⟨v, h⟩ := h
  refine (rfirst_any h hB hd).mono ?_
  rintro e w' ⟨rfl, h1, h2⟩
  have h2 := h2.mono (S' := fun b => b = r ∨ v.ownBlock = some b) fun b _ e => .inl e
  exact ⟨rfl, h1, h.bel_of h2, h.kr_of h2⟩
theorem rn_leave (h : RN B w r most l) (id : Int) :
    Calls Try.prog 15 #[ptr r, nV id] w fun e w' => e = .returned (.bool (leaveS l id).2) ∧ RS B r most (leaveS l id).1 w w' := by
  have hB := h.le
  obtain ⟨v, h⟩ := h
  refine (rleave_any h hB id).mono ?_
  rintro e w' ⟨rfl, h1, h2⟩
  have h2 := h2.mono (S' := fun b => b = r ∨ v.ownBlock = some b) fun b _ e => .inl e
  exact ⟨rfl, h1, h.bel_of h2, h.kr_of h2⟩
theorem rn_late (h : RN B w r most l) (now : Int) :
    Calls Try.prog 18 #[ptr r, nV now] w fun e w' => ∃ d, e = .returned d ∧ IS w' d (lateS l now).2 ∧ RS B r most (lateS l now).1 w w' := by
  have hB := h.le
  obtain ⟨v, h⟩ := h
  refine (rlate_any h hB now).mono ?_
  rintro e w' ⟨d, rfl, h0, h1, h2⟩
  have h2 := h2.mono (S' := fun b => b = r ∨ v.ownBlock = some b) fun b _ e => .inl e
  exact ⟨d, rfl, h0.is, h1, h.bel_of h2, h.kr_of h2⟩
theorem rn_place (h : RN B w r most l) (id : Int) : Calls Try.prog 21 #[ptr r, nV id] w (RdP (nV (placeS l id)) w) := by
  obtain ⟨v, h⟩ := h
  exact rplace_any h id
theorem rn_all (h : RN B w r most l) : Calls Try.prog 23 #[ptr r] w fun e w' => ∃ d, e = .returned d ∧ IS w' d (l.map (·.1)) ∧ Below w.heap.size w w' := by
  obtain ⟨v, h⟩ := h
  refine (rall_any h).mono ?_
  rintro e w' ⟨d, rfl, h0, h1⟩
  exact ⟨d, rfl, h0.is, h1⟩
/-- a copy that was just made -/
def LCp (B : Nat) (w : World) (a c most : Nat) (l : List Wt) : Prop := ∃ v u, LC B w a most v l ∧ Cp w a c most v u B l
/-- a copy beside its elder, who goes another way -/
def L2 (B : Nat) (w : World) (a c most : Nat) (la l : List Wt) : Prop := LN B w a most la ∧ LN B w c most l ∧ c ≠ a
theorem LC.off {v u : Value} {c : Nat} {la : List Wt} (h : LC B w a most v la) (k : LC B w c most u l) (g : Nat) (hg : u.ownBlock = some g) : g ≠ a := by
  obtain ⟨cur, hc⟩ := k.ws.ty g hg
  rintro rfl
  have hb := h.bk
  unfold Bk at hb
  rw [hc] at hb
  injection hb with hb
  injection hb with _ hb
  exact absurd hb (by decide)
theorem l2_copy (h : LN B w a most l) : Calls Try.prog 19 #[ptr a] w fun e w' => ∃ c, e = .returned (ptr c) ∧ LCp B w' a c most l ∧ Below B w w' ∧ Kf w w' := by
  have hB := h.le
  obtain ⟨v, h⟩ := h
  refine (copy_any h hB).mono ?_
  rintro e w' ⟨c, u, rfl, h1, h2, h3⟩
  exact ⟨c, rfl, ⟨v, u, h.below h2, h1⟩, h2.mono hB, Kf.below h2⟩
theorem l2_join {c : Nat} (h : LCp B w a c most l) (id till : Int) : Calls Try.prog 10 #[ptr a, nV id, nV till] w fun e w' => ∃ x la, e = .returned (nV x) ∧ L2 B w' a c most la l ∧ Below B w w' ∧ Kf w w' := by
  obtain ⟨v, u, h, k⟩ := h
  refine (join_any h id till (LN.le ⟨v, h⟩)).mono ?_
  rintro e w' ⟨rfl, h1, h2⟩
  exact ⟨_, _, rfl, ⟨h1, ⟨u, k.jk h h2⟩, k.ne⟩, h2.below h, h2.kf h⟩
theorem l2_first {c : Nat} {la : List Wt} (h : L2 B w a c most la l) : Calls Try.prog 12 #[ptr a] w fun e w' => ∃ x y la', e = .returned (.tuple #[nV x, .bool y]) ∧ L2 B w' a c most la' l ∧ Below B w w' ∧ Kf w w' := by
  obtain ⟨⟨v, h⟩, ⟨u, k⟩, hne⟩ := h
  refine (first_any h (LN.le ⟨v, h⟩)).mono ?_
  rintro e w' ⟨rfl, h1, h2⟩
  exact ⟨_, _, _, rfl, ⟨h1, ⟨u, k.chg h2 hne (h.off k)⟩, hne⟩, chg_below h h2, kf_chg h2 h⟩
theorem l2_late {c : Nat} {la : List Wt} (h : L2 B w a c most la l) (now : Int) : Calls Try.prog 17 #[ptr a, nV now] w fun e w' => ∃ d, e = .returned d ∧ LN B w' c most l ∧ Below B w w' ∧ Kf w w' := by
  obtain ⟨⟨v, h⟩, ⟨u, k⟩, hne⟩ := h
  refine (late_any h (LN.le ⟨v, h⟩) now).mono ?_
  rintro e w' ⟨d, rfl, h0, h1, h2⟩
  exact ⟨d, rfl, ⟨u, k.chg h2 hne (h.off k)⟩, chg_below h h2, kf_chg h2 h⟩
end
end Go.Proofs.Ytckodebcigmkgaa.LN
