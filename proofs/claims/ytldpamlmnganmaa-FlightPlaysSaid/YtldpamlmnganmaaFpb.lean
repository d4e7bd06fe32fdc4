/- The document's board in memory: rows of flights, each with its own list of clients. Conditions: how many. -/
import Derived.Test.YtldpamlmnganmaaFpa
import Derived.Test.YtldpamlmnganmaaRwa
import Derived.Laws.OwnMore
namespace Go.Proofs.Ytldpamlmnganmaa.FL
open Go.ChangeShapes Go.WideShapes Go.ChangeAt Go.RowKit Go.Maps Go.ChangeMaps
open Go.Proofs.Ytldpamlmnganmaa.SL
set_option maxRecDepth 100000
set_option linter.unusedVariables false
set_option linter.unusedSimpArgs false

/-- a row: its key, its slice, what that reads as -/
abbrev Xr : Type := Ky × Value × List Int
def rC (x : Xr) : List Value := (kC x.1).toList ++ [x.2.1]
def rCs (X : List Xr) : List Value := RW.fz (X.map rC)
def pl (X : List Xr) : List Fl := X.map fun x => (x.1, x.2.2)
theorem rC_uni (X : List Xr) : RW.Uni 5 (X.map rC) := fun r hr => by
  obtain ⟨x, _, rfl⟩ := List.mem_map.1 hr
  rfl
theorem rCs_len (X : List Xr) : (rCs X).length = X.length * 5 := by unfold rCs; rw [RW.fz_len (rC_uni X), List.length_map]
theorem rCs_app (X Y : List Xr) : rCs (X ++ Y) = rCs X ++ rCs Y := by unfold rCs; rw [List.map_append, RW.fz_append]
theorem rCs_at {X : List Xr} {i : Nat} {x : Xr} (h : X[i]? = some x) (j : Nat) (hj : j < 5) : (rCs X)[i * 5 + j]? = (rC x)[j]? := RW.fz_at (rC_uni X) (by rw [List.getElem?_map, h]; rfl) j hj
theorem rCs_set (X : List Xr) (i : Nat) (x : Xr) (h : X[i]? = some x) (v : Value) (l : List Int) : (rCs X).set (i * 5 + 4) v = rCs (X.set i (x.1, v, l)) := by
  induction X generalizing i with
  | nil => simp at h
  | cons y X ih =>
    have e1 : ∀ z Z, rCs (z :: Z) = rC z ++ rCs Z := fun z Z => by unfold rCs; rw [List.map_cons]; rfl
    cases i with
    | zero =>
      simp at h
      subst h
      rw [List.set_cons_zero, e1, e1]
      rfl
    | succ i =>
      have h2 : X[i]? = some x := by simpa using h
      rw [List.set_cons_succ, e1, e1, ← ih i h2]
      have hl : (rC y).length = 5 := rfl
      rw [show (i + 1) * 5 + 4 = (rC y).length + (i * 5 + 4) by rw [hl]; omega, List.set_append_right _ _ (by omega)]
      congr 2
      omega
theorem rC_one (X : List Xr) (h : ∀ x ∈ X, x.2.1.oneCell' = true) : ∀ u ∈ rCs X, u.oneCell' = true := RW.fz_all fun r hr u hu => by
  obtain ⟨x, hx, rfl⟩ := List.mem_map.1 hr
  rcases List.mem_append.1 hu with hu | hu
  · simp only [kC, List.mem_cons, List.not_mem_nil, or_false] at hu
    rcases hu with rfl | rfl | rfl | rfl <;> rfl
  · obtain rfl := List.mem_singleton.1 hu
    exact h x hx
/-- at block r the document's board: these rows in v -/
structure RT (B : Nat) (w : World) (r : Nat) (X : List Xr) (v : Value) : Prop where
  bk : Bk w r 28 #[v]
  own : w.ownsRow B 76 5 v X.length (rCs X)
  it : ∀ x ∈ X, OI B w x.2.1 x.2.2 ∧ x.2.2 ≠ []
  ap : X.Pairwise fun x y => x.2.1.ownBlock ≠ y.2.1.ownBlock
  bg : B ≤ r
/-- the blocks of the document's board -/
def Xown (r : Nat) (X : List Xr) (v : Value) (b : Nat) : Prop := b = r ∨ v.ownBlock = some b ∨ ∃ x ∈ X, x.2.1.ownBlock = some b
/-- what is not of the document's board's types is as it was -/
def Kr (w w' : World) : Prop := ∀ (b : Nat) (o : Obj), w.heap[b]? = some o → (∀ cs t fr, o = .cells cs t fr → t ≠ 28 ∧ t ≠ 76 ∧ t ≠ 3) → w'.heap[b]? = w.heap[b]?
section
variable {B : Nat} {w w' : World} {r : Nat} {X : List Xr} {v : Value}
theorem Kr.refl (w : World) : Kr w w := fun _ _ _ _ => rfl
theorem Kr.trans {a b c : World} (h : Kr a b) (k : Kr b c) : Kr a c := fun i o ho ht => (k i o ((h i o ho ht).trans ho) ht).trans (h i o ho ht)
theorem Kr.below (h : Below w.heap.size w w') : Kr w w' := fun b o ho _ => h.block b (Array.getElem?_eq_some_iff.1 ho).1
theorem Kr.bk {g : Nat} {t : TypeId} {cs : Array Value} (h : Kr w w') (hb : Bk w g t cs) (ht : t ≠ 28 ∧ t ≠ 76 ∧ t ≠ 3 := by decide) : Bk w' g t cs :=
  (h g _ hb (fun cs' t' fr e => by injection e with _ e _; rw [← e]; exact ht)).trans hb
theorem own_ty {z n : Nat} {e : TypeId} {v : Value} {xs : List Value} (h : w.ownsRow B e z v n xs) {b : Nat} (hb : v.ownBlock = some b) : ∃ cur fr, w.heap[b]? = some (.cells cur e fr) := by
  rcases h.2 with ⟨rfl, _⟩ | ⟨q, cap, cur, rfl, hbb, hg, hr⟩
  · cases hb
  · injection hb with hb
    subst hb
    exact ⟨cur, _, hg⟩
theorem RT.lt (h : RT B w r X v) {b : Nat} (hb : Xown r X v b) : B ≤ b ∧ b < w.heap.size := by
  rcases hb with rfl | hb | ⟨x, hx, hb⟩
  · exact ⟨h.bg, h.bk.lt⟩
  · exact World.ownsRow.lt h.own b hb
  · exact World.ownsRow.lt (h.it x hx).1 b hb
theorem RT.ty (h : RT B w r X v) {b : Nat} (hb : Xown r X v b) : ∃ cs t fr, w.heap[b]? = some (.cells cs t fr) ∧ (t = 28 ∨ t = 76 ∨ t = 3) := by
  rcases hb with rfl | hb | ⟨x, hx, hb⟩
  · exact ⟨_, _, _, h.bk, .inl rfl⟩
  · obtain ⟨cur, fr, hc⟩ := own_ty h.own hb
    exact ⟨cur, _, fr, hc, .inr (.inl rfl)⟩
  · obtain ⟨cur, fr, hc⟩ := own_ty (h.it x hx).1 hb
    exact ⟨cur, _, fr, hc, .inr (.inr rfl)⟩
theorem keepRow {z n : Nat} {e : TypeId} {v : Value} {xs : List Value} (h : w.ownsRow B e z v n xs) (hk : ∀ g, v.ownBlock = some g → w'.heap[g]? = w.heap[g]?) : w'.ownsRow B e z v n xs := by
  refine ⟨h.1, ?_⟩
  rcases h.2 with h2 | ⟨g, cap, cur, rfl, hb, hg, hr⟩
  · exact .inl h2
  · exact .inr ⟨g, cap, cur, rfl, hb, (hk g rfl).trans hg, hr⟩
theorem RT.keep (h : RT B w r X v) (hk : ∀ b, Xown r X v b → w'.heap[b]? = w.heap[b]?) : RT B w' r X v :=
  ⟨h.bk.heap (hk r (.inl rfl)), keepRow h.own fun g hg => hk g (.inr (.inl hg)), fun x hx => ⟨OI.keep (h.it x hx).1 fun g hg => hk g (.inr (.inr ⟨x, hx, hg⟩)), (h.it x hx).2⟩, h.ap, h.bg⟩
theorem RT.below (h : RT B w r X v) (hb : Below w.heap.size w w') : RT B w' r X v := h.keep fun b ho => hb.block b (h.lt ho).2
/-- the code's steps leave it -/
theorem RT.kf (h : RT B w r X v) (hk : Kf w w') : RT B w' r X v := h.keep fun b ho => by
  obtain ⟨cs, t, fr, hc, ht⟩ := h.ty ho
  exact hk b cs t fr (by rcases ht with rfl | rfl | rfl <;> decide) hc
theorem RT.chg_kr (h : RT B w r X v) (hc : Chg (Xown r X v) w w') : Kr w w' := fun b o ho ht => hc.block b (Array.getElem?_eq_some_iff.1 ho).1 fun hx => by
  obtain ⟨cs, t, fr, hcs, htt⟩ := h.ty hx
  rw [ho] at hcs
  injection hcs with hcs
  obtain ⟨h1, h2, h3⟩ := ht cs t fr hcs
  rcases htt with e | e | e
  · exact h1 e
  · exact h2 e
  · exact h3 e
theorem RT.chg_below (h : RT B w r X v) (hB : B ≤ w.heap.size) (hc : Chg (Xown r X v) w w') : Below B w w' := hc.below hB fun b hb hx => by
  have := (h.lt hx).1
  omega
theorem RT.form (h : RT B w r X v) : ∃ a c, v = .slice a X.length c := by
  rcases h.own.2 with ⟨rfl, h0⟩ | ⟨g, cap, cur, rfl, _⟩
  · exact ⟨none, 0, by rw [h0]⟩
  · exact ⟨_, _, rfl⟩
/-- the row at place i -/
theorem RT.at_ (h : RT B w r X v) {i : Nat} {x : Xr} (hi : X[i]? = some x) : ∃ g cap, v = .slice (some ⟨g, 0, none⟩) X.length cap ∧ ∀ (j : Nat) u, (rC x)[j]? = some u → w.cell? ⟨g, i * 5 + j, none⟩ = some u := by
  have hl : i < X.length := (List.getElem?_eq_some_iff.1 hi).1
  rcases h.own.2 with ⟨rfl, h0⟩ | ⟨g, cap, cur, rfl, hb, hg, hr⟩
  · omega
  · refine ⟨g, cap, rfl, fun j u hu => ?_⟩
    have hj : j < 5 := (List.getElem?_eq_some_iff.1 hu).1
    have := World.ownsRow.cells h.own (g := g) rfl (i * 5 + j) u (by rw [rCs_at hi j hj]; exact hu)
    rw [Addr.add_lit, Nat.zero_add] at this
    exact this
/-- the clients at place i -/
theorem RT.list (h : RT B w r X v) {i : Nat} {x : Xr} (hi : X[i]? = some x) : OI B w x.2.1 x.2.2 ∧ x.2.2 ≠ [] := h.it x (List.mem_of_getElem? hi)
end
theorem CB.kr {w w' : World} {a N : Nat} {C : Bs} {S : List Fl} (h : CB w a N C S) (hk : Kr w w') : CB w' a N C S := by
  have hm : ∀ {P : Program} {K : TypeId} {b n : Nat} {f : Lit → Option Value}, MV.MapV P K w b n f → w'.heap[b]? = w.heap[b]? := fun hm => by
    obtain ⟨es, clock, hb⟩ := hm.obj
    exact hk _ _ hb (fun cs t fr e => by cases e)
  refine h.keep fun b hb => ?_
  rcases hb with rfl | rfl | rfl | ⟨k, r, hr, rfl | rfl⟩
  · exact hk _ _ h.bk (fun cs t fr e => by injection e with _ e _; rw [← e]; decide)
  · exact hm h.mf
  · exact hm h.ms
  · exact hk _ _ (h.row k r hr).bk (fun cs t fr e => by injection e with _ e _; rw [← e]; decide)
  · exact hm (h.row k r hr).mp
theorem LB.kr {B : Nat} {w w' : World} {a N : Nat} {S : List Fl} (h : LB B w a N S) (hk : Kr w w') : LB B w' a N S := by
  obtain ⟨C, h1, h2⟩ := h
  exact ⟨C, h1.kr hk, h2⟩
end Go.Proofs.Ytldpamlmnganmaa.FL
