/- What the document's own one answers at a letter, and at a digit. Conditions: a text's length. -/
import Derived.Test.YtlmgggipkdmdfaaDoorLzg
namespace Go.Proofs.YtlmgggipkdmdfaaDoor
open Go.ChangeShapes Go.WideShapes Go.ChangeAt Go.RowKit
set_option linter.unusedVariables false
set_option linter.unusedSimpArgs false

def OneP (w : World) (r : Tok × Nat × Int) (e : Ending) (w' : World) : Prop :=
  e = .returned (.tuple #[.agg #[.int .i64 r.1.1, .string r.1.2.1, .int .i64 r.1.2.2], .int .i64 (r.2.1 : Int), .int .i64 r.2.2]) ∧ Below w.heap.size w w'
theorem Own3.tok (w : World) : Own3 w (w.alloc (.cells #[.int .i64 0, .string ⟨#[]⟩, .int .i64 0] 30)) :=
  ⟨(Below.refl _ _).alloc (Nat.le_refl _) _, by simp, by simp [go_sem], by simp [go_sem], by simp [go_sem], by simp [go_sem], by simp [go_sem], by simp [go_sem]⟩
theorem row_end (s : ByteArray) (p : UInt8 → Bool) (a : Nat) (ha : a ≤ s.size) : a + rowL p (s.data.toList.drop a) ≤ s.size := by
  have := rowL_le p (s.data.toList.drop a)
  rw [List.length_drop] at this
  have e : s.size = s.data.toList.length := rfl
  omega
set_option maxHeartbeats 1000000 in
set_option maxRecDepth 100000 in
theorem one_word (s : ByteArray) (a : Nat) (ha : a < s.size) (w : World) (hs : s.size ≤ 1048000) (hl : letB s[a] = true) (E : Nat) (hE : a + rowL wordB (s.data.toList.drop a) = E) :
    Calls Tryd.prog 18 #[.string s, .int .i64 (a : Int)] w (OneP w ((1, smallA (s.extract a E), (a : Int)), E, 0)) := by
  have l0 : (0 : Int) ≤ (a : Int) := by omega
  have l1 : (a : Int) < (s.size : Int) := by omega
  obtain ⟨z, hz⟩ : ∃ z : Int, ((s[a]'ha).toNat : Int) = z := ⟨_, rfl⟩
  have hlet : ∀ w, Calls Tryd.prog 38 #[.int .u8 z] w fun e w' => e = .returned (.bool true) ∧ w' = w := by
    intro w
    have := rlet_any z w
    rw [show letN z = true by rw [← hz]; exact hl] at this
    exact this
  have hrow : ∀ w, Calls Tryd.prog 39 #[.string s, .int .i64 (a : Int), .int .i64 1] w fun e w' => e = .returned (.int .i64 (E : Int)) ∧ w' = w := by
    intro w
    have := rrow_any s a 1 (.inl rfl) w (by omega) (by omega)
    rw [show rowB 1 = wordB from rfl, hE] at this
    exact this
  have e1 : (a : Int) ≤ (E : Int) := by omega
  have e2 : (E : Int) ≤ (s.size : Int) := by have := row_end s wordB a (by omega); omega
  have hsm := fun w => rsmall_any (s.extract a E) (by rw [ByteArray.size_extract]; omega) w
  have HLET := Lib.hid hlet
  have HROW := Lib.hid hrow
  have HSM := Lib.hid hsm
  have HO := Lib.hid (Own3.tok w)
  clear hlet hrow hsm hE hl
  go_enter Tryd.func18, Tryd.ntmps18
  go_wp2_with (first
    | (go_at_call 38; (with_reducible refine (HLET.out _).mono ?_); rintro e w1 ⟨rfl, hw1⟩; obtain rfl := hw1.symm)
    | (go_at_call 39; (with_reducible refine (HROW.out _).mono ?_); rintro e w1 ⟨rfl, hw1⟩; obtain rfl := hw1.symm)
    | (go_at_call 40; (with_reducible refine (HSM.out _).mono ?_); rintro e w2 ⟨rfl, hb2⟩; have F1 := HO.out.step hb2; obtain ⟨hB, hL, k0, k1, k2, f0, f1, f2⟩ := id F1))
  refine bodyPost_ret (v := .tuple #[.agg #[.int .i64 1, .string (smallA (s.extract a E)), .int .i64 (a : Int)], .int .i64 (E : Int), .int .i64 0]) (by simp [results, Tryd.results18, go_sem, k0, k1, k2]) rfl ?_
  refine ⟨rfl, ((hB.setCell ?_ _).setCell ?_ _).setCell ?_ _⟩ <;> exact Nat.le_refl _
end Go.Proofs.YtlmgggipkdmdfaaDoor
