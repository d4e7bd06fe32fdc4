/- Entries of package pool in rows that a call owns. No condition. -/
import Derived.Test.YtochjbmighijgaaRwa
namespace Go.Proofs.Ytochjbmighijgaa.PO
open Go.ChangeShapes Go.WideShapes Go.ChangeAt Go.RowKit
open Go.Proofs.Ytochjbmighijgaa.SL Go.Proofs.Ytochjbmighijgaa.RW
set_option maxRecDepth 100000
set_option linter.unusedVariables false
set_option linter.unusedSimpArgs false

abbrev Rs := Int × Int
theorem iEnt : ∃ i, Try.prog.info? 76 = some i ∧ i.zero = some (.agg #[.int .i64 0, .int .i64 0]) ∧ i.size = 2 ∧ i.bytes = 16 := by
  have h : (Try.prog.info? 76).bind (fun i => if i.size = 2 ∧ i.bytes = 16 then i.zero else none) = some (.agg #[.int .i64 0, .int .i64 0]) := by kernel_rfl
  cases hi : Try.prog.info? 76 with
  | none => rw [hi] at h; cases h
  | some j =>
    rw [hi] at h
    by_cases hc : j.size = 2 ∧ j.bytes = 16
    · simp [hc] at h
      exact ⟨j, rfl, h, hc.1, hc.2⟩
    · simp [hc] at h
theorem undE : Try.prog.underlying 62 = some (.slice 76) := Try.underlying62
def eRow (e : Rs) : List Value := [.int .i64 e.1, .int .i64 e.2]
def eC (l : List Rs) : List Value := fz (l.map eRow)
theorem eUni (l : List Rs) : Uni 2 (l.map eRow) := fun r hr => by
  obtain ⟨e, _, rfl⟩ := List.mem_map.1 hr; rfl
theorem eC_len (l : List Rs) : (eC l).length = l.length * 2 := by unfold eC; rw [fz_len (eUni l), List.length_map]
theorem eC_app (a b : List Rs) : eC (a ++ b) = eC a ++ eC b := by unfold eC; rw [List.map_append, fz_append]
theorem eC_take (l : List Rs) (i : Nat) : eC (l.take i) = (eC l).take (i * 2) := by unfold eC; rw [List.map_take, fz_take (eUni l)]
theorem eC_drop (l : List Rs) (i : Nat) : eC (l.drop i) = (eC l).drop (i * 2) := by unfold eC; rw [List.map_drop, fz_drop (eUni l)]
theorem eC_one (l : List Rs) : ∀ v ∈ eC l, v.oneCell' = true := fz_all fun r hr v hv => by
  obtain ⟨e, _, rfl⟩ := List.mem_map.1 hr
  simp only [eRow, List.mem_cons, List.not_mem_nil, or_false] at hv
  rcases hv with rfl | rfl <;> rfl
theorem eC_at (l : List Rs) (i : Nat) (e : Rs) (h : l[i]? = some e) : (eC l)[i * 2]? = some (.int .i64 e.1) ∧ (eC l)[i * 2 + 1]? = some (.int .i64 e.2) := by
  have key := fz_at (eUni l) (i := i) (r := eRow e) (by rw [List.getElem?_map, h]; rfl)
  exact ⟨key 0 (by omega), key 1 (by omega)⟩
theorem eC_single (e : Rs) : eC [e] = eRow e := by unfold eC fz; simp
/-- the call owns the entries -/
def EQ (B : Nat) (w : World) (v : Value) (l : List Rs) : Prop := w.ownsRow B 76 2 v l.length (eC l)
section
variable {B : Nat} {w w' : World} {v : Value} {l : List Rs}
theorem EQ.nil (B : Nat) (w : World) : EQ B w (.slice none 0 0) [] := World.ownsRow_nil _ _ _ _
theorem EQ.keep (h : EQ B w v l) (hk : ∀ g, v.ownBlock = some g → w'.heap[g]? = w.heap[g]?) : EQ B w' v l := by
  refine ⟨h.1, ?_⟩
  rcases h.2 with h2 | ⟨g, cap, cur, rfl, hb, hg, hr⟩
  · exact .inl h2
  · exact .inr ⟨g, cap, cur, rfl, hb, (hk g rfl).trans hg, hr⟩
theorem EQ.lt (h : EQ B w v l) (g : Nat) (hg : v.ownBlock = some g) : B ≤ g ∧ g < w.heap.size := World.ownsRow.lt h g hg
theorem EQ.below (h : EQ B w v l) (hb : Below w.heap.size w w') : EQ B w' v l := h.keep fun g hg => hb.block g (h.lt g hg).2
theorem EQ.mono {B' : Nat} (h : EQ B w v l) (hB : B' ≤ B) : EQ B' w v l := by
  refine ⟨h.1, ?_⟩
  rcases h.2 with h2 | ⟨g, cap, cur, rfl, hb, hr⟩
  · exact .inl h2
  · exact .inr ⟨g, cap, cur, rfl, Nat.le_trans hB hb, hr⟩
theorem EQ.form (h : EQ B w v l) : ∃ a cap, v = .slice a l.length cap := by
  rcases h.2 with ⟨rfl, hz⟩ | ⟨g, cap, cur, rfl, _⟩
  · exact ⟨_, _, by rw [hz]⟩
  · exact ⟨_, _, rfl⟩
theorem EQ.inv (h : EQ B w v l) : (v = .slice none 0 0 ∧ l = []) ∨ ∃ g cap, v = .slice (some ⟨g, 0, none⟩) l.length cap ∧ l.length ≤ cap ∧ cap ≤ maxLen ∧ B ≤ g ∧ g < w.heap.size := by
  rcases h.2 with ⟨rfl, hz⟩ | ⟨g, cap, cur, rfl, hb, hg, hc, hm, _⟩
  · exact .inl ⟨rfl, List.eq_nil_of_length_eq_zero hz⟩
  · exact .inr ⟨g, cap, rfl, hc, hm, hb, (h.lt g rfl).2⟩
theorem EQ.cells {g n cap : Nat} (h : EQ B w (.slice (some ⟨g, 0, none⟩) n cap) l) (i : Nat) (e : Rs) (hi : l[i]? = some e) : w.cell? ⟨g, i * 2, none⟩ = some (.int .i64 e.1) ∧ w.cell? ⟨g, i * 2 + 1, none⟩ = some (.int .i64 e.2) := by
  have hn : n = l.length := by
    rcases h.2 with ⟨h', _⟩ | ⟨_, _, _, h', _⟩
    · cases h'
    · injection h'
  subst hn
  obtain ⟨e1, e2⟩ := eC_at l i e hi
  have c1 := World.ownsRow.cells h (g := g) rfl _ _ e1
  have c2 := World.ownsRow.cells h (g := g) rfl _ _ e2
  rw [Addr.add_lit, Nat.zero_add] at c1 c2
  exact ⟨c1, c2⟩
theorem EQ.ty (h : EQ B w v l) : ∀ b, v.ownBlock = some b → B ≤ b ∧ ∃ cur fz, w.heap[b]? = some (.cells cur 76 fz) := by
  intro b hb
  rcases h.2 with ⟨rfl, _⟩ | ⟨q, cap, cur, rfl, hbb, hg, hr⟩
  · cases hb
  · injection hb with hb
    subst hb
    exact ⟨hbb, cur, _, hg⟩
theorem EQ.of {m : Nat} {X : List Value} {A : List Rs} (h : w.ownsRow B 76 2 v m X) (hm : A.length = m) (hx : eC A = X) : EQ B w v A := by
  subst hm hx; exact h
end
theorem splice_shift {α : Type} (A D Y N : List α) (o z : Nat) (ho : A.length = o) (hY : Y.length = z) (hN : N.length = z) : splice (splice (A ++ D ++ Y) (o + z) D) o N = A ++ N ++ D := by
  subst ho
  unfold splice
  have e1 : (A ++ D ++ Y).take (A.length + z) = A ++ (D ++ Y).take z := by
    rw [List.append_assoc, List.take_append, List.take_of_length_le (l := A) (by omega)]
    congr 2
    omega
  have e2 : (A ++ D ++ Y).drop (A.length + z + D.length) = [] := List.drop_eq_nil_of_le (by simp; omega)
  have hz : ((D ++ Y).take z).length = z := by rw [List.length_take, List.length_append]; omega
  rw [e1, e2, List.append_nil]
  have e3 : (A ++ (D ++ Y).take z ++ D).take A.length = A := by rw [List.append_assoc, List.take_left]
  have e4 : (A ++ (D ++ Y).take z ++ D).drop (A.length + N.length) = D := by
    rw [List.drop_append, List.drop_of_length_le (by rw [List.length_append, hz]; omega), List.nil_append]
    rw [List.length_append, hz, hN, Nat.sub_self, List.drop_zero]
  rw [e3, e4, List.append_assoc]
end Go.Proofs.Ytochjbmighijgaa.PO
