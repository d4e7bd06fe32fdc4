/- Plain mathematics of layer 4: rows of bytes whose letters are all of a sort, as a range over a string sees them. No program is walked here. -/
import Derived.Test.YtlmgggipkdmdfaaDoorRows
import Derived.WalkKit
import Derived.ProofKit
import Derived.Below
import Derived.IntWalk
import Derived.Lib.Strings
import Derived.Lib.Hide
import Derived.Lib.Walk
import Derived.Laws.RangeString
import Derived.Laws.RangeAny
namespace Go.Proofs.YtlmgggipkdmdfaaDoor
set_option linter.unusedSimpArgs false
open Go.ChangeShapes Go.WideShapes Go.ChangeAt Go.RowKit
set_option linter.unusedVariables false

abbrev Tx := List UInt8
/-- what a range over a string sees at a byte above 127: a letter above 127, of at least one byte, whose bytes are all above 127, within the text -/
theorem decode_wide (s : ByteArray) (pos : Nat) (h : pos < s.size) (ha : 128 ≤ (s[pos]'h).toNat) :
    pos + (Utf8.decode s pos).2 ≤ s.size ∧ ∀ j, j < (Utf8.decode s pos).2 → ∀ hj : pos + j < s.size, 128 ≤ (s[pos + j]'hj).toNat := by
  have get : ∀ k, ∀ hk : pos + k < s.size, (s.get! (pos + k)).toNat = (s[pos + k]'hk).toNat := by
    intro k hk
    have : s.get! (pos + k) = s[pos + k]'hk := by
      show s.get! (pos + k) = _
      simp [ByteArray.get!, getElem!_pos, hk]
      rfl
    rw [this]
  have key : ∀ n, (∀ k, 0 < k → k < n → (decide (pos + k < s.size) && (s.get! (pos + k)).toNat / 64 == 2) = true) → pos + n ≤ s.size ∨ n ≤ 1 → (pos + n ≤ s.size ∨ n = 0 ∨ n = 1) → ∀ j, j < n → ∀ hj : pos + j < s.size, 128 ≤ (s[pos + j]'hj).toNat := by
    intro n hn _ _ j hjn hj
    by_cases h0 : j = 0
    · subst h0; exact ha
    · have := hn j (by omega) hjn
      simp only [Bool.and_eq_true, beq_iff_eq] at this
      rw [get j hj] at this
      omega
  have lim : ∀ k, (decide (pos + k < s.size) && (s.get! (pos + k)).toNat / 64 == 2) = true → pos + k < s.size := by
    intro k hk
    simp only [Bool.and_eq_true, decide_eq_true_eq] at hk
    exact hk.1
  have hn0 : ¬ (s.get! (pos + 0)).toNat < 128 := by rw [get 0 h]; exact Nat.not_lt.2 ha
  have one : pos + 1 ≤ s.size ∧ ∀ j, j < 1 → ∀ hj : pos + j < s.size, 128 ≤ (s[pos + j]'hj).toNat := ⟨h, fun j hj hj2 => by
    have : j = 0 := by omega
    subst this; exact ha⟩
  unfold Utf8.decode
  simp only
  rw [if_neg hn0]
  split
  · rename_i h2
    simp only [Bool.and_eq_true] at h2
    split
    · refine ⟨?_, key 2 (fun k k0 k2 => ?_) (.inl ?_) (.inl ?_)⟩
      · have := lim 1 (by simp only [Bool.and_eq_true]; exact h2.2); omega
      · have : k = 1 := by omega
        subst this; simp only [Bool.and_eq_true]; exact h2.2
      · have := lim 1 (by simp only [Bool.and_eq_true]; exact h2.2); omega
      · have := lim 1 (by simp only [Bool.and_eq_true]; exact h2.2); omega
    · exact one
  · split
    · rename_i h3
      simp only [Bool.and_eq_true] at h3
      split
      · have l2 := lim 2 (by simp only [Bool.and_eq_true]; exact h3.2)
        refine ⟨by omega, key 3 (fun k k0 k2 => ?_) (.inl (by omega)) (.inl (by omega))⟩
        have : k = 1 ∨ k = 2 := by omega
        rcases this with rfl | rfl
        · simp only [Bool.and_eq_true]; exact h3.1.2
        · simp only [Bool.and_eq_true]; exact h3.2
      · exact one
    · split
      · rename_i h4
        simp only [Bool.and_eq_true] at h4
        split
        · have l3 := lim 3 (by simp only [Bool.and_eq_true]; exact h4.2)
          refine ⟨by omega, key 4 (fun k k0 k2 => ?_) (.inl (by omega)) (.inl (by omega))⟩
          have : k = 1 ∨ k = 2 ∨ k = 3 := by omega
          rcases this with rfl | rfl | rfl
          · simp only [Bool.and_eq_true]; exact h4.1.1.2
          · simp only [Bool.and_eq_true]; exact h4.1.2
          · simp only [Bool.and_eq_true]; exact h4.2
        · exact one
      · exact one
/-- the next letter of a range over a string, wherever the iterator lies -/
theorem run_next_at_ {P : Program} (w : World) (g : Nat) (s : ByteArray) (pos : Nat) (ty : TypeId) (hg : w.heap[g]? = some (.stringIter s pos)) (h : pos < s.size) :
    (Instr.next (.pointer (some ⟨g, 0, none⟩)) true ty).run P w = .ok (.tuple #[.bool true, .int .i64 pos, .int .i32 ((Utf8.decode s pos).1 : Nat)]) { w with heap := w.heap.setIfInBounds g (.stringIter s (pos + (Utf8.decode s pos).2)) } := by
  have hlt : g < w.heap.size := (Array.getElem?_eq_some_iff.1 hg).1
  simp only [Instr.next, getObj, setObj, Sem.run_bind, Sem.run, hg, Result.andThen, h, if_true]
  simp [goInt, Sem.run, hg, hlt]
theorem run_next_over {P : Program} (w : World) (g : Nat) (s : ByteArray) (pos : Nat) (ty : TypeId) (hg : w.heap[g]? = some (.stringIter s pos)) (h : ¬ pos < s.size) :
    (Instr.next (.pointer (some ⟨g, 0, none⟩)) true ty).run P w = .ok (.tuple #[.bool false]) w := by
  simp [Instr.next, getObj, Sem.run, hg, h]
end Go.Proofs.YtlmgggipkdmdfaaDoor
