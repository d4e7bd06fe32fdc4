/- Scan in plain words, and what holds of the memory while it goes on. Condition: none. -/
import Derived.Test.YtlmgggipkdmdfaaDoorLxq
namespace Go.Proofs.YtlmgggipkdmdfaaDoor
open Go.ChangeShapes Go.WideShapes Go.ChangeAt Go.RowKit
set_option linter.unusedVariables false
set_option linter.unusedSimpArgs false

abbrev Tok : Type := Int × ByteArray × Int
def tokCells (t : Tok) : List Value := [.int .i64 t.1, .string t.2.1, .int .i64 t.2.2]
def tokRow (l : List Tok) : List Value := l.flatMap tokCells
/-- the first of the last k readers that finds something -/
def findR : Nat → ByteArray → Option Pc
  | 0, _ => none
  | k + 1, s => if (rdP (9 - k) s).2.2 = 0 then findR k s else some (rdP (9 - k) s)
theorem findR_at (i : Nat) (hi : i < 10) (s : ByteArray) : findR (10 - i) s = if (rdP i s).2.2 = 0 then findR (10 - (i + 1)) s else some (rdP i s) := by
  have e1 : 10 - i = (9 - i) + 1 := by omega
  have e2 : 9 - (9 - i) = i := by omega
  have e3 : 10 - (i + 1) = 9 - i := by omega
  rw [e1, findR, e2, e3]
/-- what Scan answers from a place on: tokens, errno, where -/
def scanN : Nat → ByteArray → Nat → List Tok → List Tok × Int × Int
  | 0, _, _, acc => (acc, 0, 0)
  | f + 1, s, a, acc =>
    if s.size ≤ a then (acc, 0, 0) else match findR 10 (s.extract a s.size) with
    | none => ([], 7, (a : Int))
    | some p => if p.2.2 = -1 then ([], 6, (a : Int)) else scanN f s (a + p.2.2.toNat) (if p.1 = 0 then acc else acc ++ [(p.1, p.2.1, (a : Int))])
structure ScI (m : Int) (w : World) (l : List Tok) (v : Value) (wr : World) : Prop where
  bel : Below w.heap.size w wr
  wd : Wd m wr
  lt : w.heap.size < wr.heap.size
  rdr : wr.heap[w.heap.size]? = some (.cells rdRow 37 (0, 0))
  row : wr.ownsRow (w.heap.size + 1) 30 3 v l.length (tokRow l)
theorem ownsRow_below {B : Nat} {e : TypeId} {z n : Nat} {v : Value} {xs : List Value} {w w2 : World} (h : w.ownsRow B e z v n xs) (b : Below w.heap.size w w2) : w2.ownsRow B e z v n xs := by
  refine ⟨h.1, ?_⟩
  rcases h.2 with h1 | ⟨g, cap, cur, h1, h2, h3, h4⟩
  · exact .inl h1
  · refine .inr ⟨g, cap, cur, h1, h2, ?_, h4⟩
    rw [b.block g (Array.getElem?_eq_some_iff.1 h3).1]
    exact h3
theorem ScI.start {m : Int} {w : World} (h : Wd m w) : ScI m w [] (.slice none 0 0) (w.alloc (.cells rdRow 37)) := by
  have b : Below w.heap.size w (w.alloc (.cells rdRow 37)) := (Below.refl _ _).alloc (Nat.le_refl _) _
  exact ⟨b, h.below b, by simp, by show (w.heap.push _)[w.heap.size]? = _; simp, World.ownsRow_nil _ _ _ _⟩
theorem ScI.step {m : Int} {w wr w2 : World} {l : List Tok} {v : Value} (h : ScI m w l v wr) (b : Below wr.heap.size wr w2) : ScI m w l v w2 :=
  ⟨h.bel.trans (b.mono (Nat.le_of_lt h.lt)), h.wd.below b, Nat.lt_of_lt_of_le h.lt b.size, by rw [b.block _ h.lt]; exact h.rdr, ownsRow_below h.row b⟩
theorem ScI.more {m : Int} {w wr w2 : World} {l : List Tok} {v v2 : Value} (h : ScI m w l v wr) (t : Tok) (g : wr.grownBy w2 v.ownBlock)
    (r : w2.ownsRow (w.heap.size + 1) 30 3 v2 (l.length + 1) (tokRow l ++ tokCells t)) : ScI m w (l ++ [t]) v2 w2 := by
  have b : Below (w.heap.size + 1) wr w2 := (Below.refl _ _).grown g (by have := h.lt; omega) (fun k hk => (World.ownsRow.lt h.row k hk).1)
  have hw : 0 < w.heap.size + 1 := Nat.succ_pos _
  refine ⟨h.bel.trans (b.mono (Nat.le_succ _)), ?_, Nat.lt_of_lt_of_le h.lt b.size, ?_, ?_⟩
  · unfold Wd
    rw [b.cell (p := ⟨0, 0, none⟩) hw]
    exact h.wd
  · rw [b.block _ (Nat.lt_succ_self _)]; exact h.rdr
  · rw [List.length_append, show tokRow (l ++ [t]) = tokRow l ++ tokCells t by simp [tokRow]]
    exact r
/-- what the readers' list holds -/
theorem ScI.reader {m : Int} {w wr : World} {l : List Tok} {v : Value} (h : ScI m w l v wr) (i : Nat) (hi : i < 10) : wr.cell? ⟨w.heap.size, i, none⟩ = some (.func (.func (rdF i)) #[] #[]) := by
  have e : rdRow[i]? = some (.func (.func (rdF i)) #[] #[]) := by simp [rdRow, hi]
  unfold World.cell?
  rw [h.rdr]
  simpa using e
end Go.Proofs.YtlmgggipkdmdfaaDoor
