/- What package lexer's param answers. Condition: a text's length. -/
import Derived.Test.YtlmgggipkdmdfaaDoorLxf
import Derived.WalkMore
import Derived.BigQuiet
import Derived.IntWalk
import Derived.Deep.QuietTactic
namespace Go.Proofs.YtlmgggipkdmdfaaDoor
open Go.ChangeShapes Go.WideShapes Go.ChangeAt Go.RowKit
set_option linter.unusedVariables false
set_option linter.unusedSimpArgs false

abbrev dolT : ByteArray := ⟨#[36]⟩
theorem param_core (s r : ByteArray) (b : Bool) (n : Nat) (w : World) (hn : rowL digB r.data.toList = n) (hle : n + 1 ≤ s.size ∨ b = false ∨ n = 0) (hs : s.size ≤ 281474976710656)
    (hc : ∀ w, Calls Tryd.prog 60 #[.string s, .string dolT] w fun e w' => e = .returned (.tuple #[.string r, .bool b]) ∧ w' = w) :
    Calls Tryd.prog 34 #[.string s] w fun e w' => e = .returned (if b = false ∨ n = 0 then pcV 0 ⟨#[]⟩ 0 else pcV 5 (s.extract 0 (n + 1)) ((n + 1 : Nat) : Int)) ∧ Below w.heap.size w w' := by
  have hr := fun w => row_digit digN digB false (Lib.hid kin_dig) r w (Lib.hid (weak_ dig_any))
  have hk := fun w => clone_any (s.extract 0 (n + 1)) w (by rw [ByteArray.size_extract]; omega)
  simp only [hn] at hr
  have HC := Lib.hid hc
  have HR := Lib.hid hr
  have HK := Lib.hid hk
  clear hc hr hk hn
  by_cases h : b = false ∨ n = 0
  · rw [if_pos h]
    cases b with
    | false =>
      clear h hle
      go_enter Tryd.func34, Tryd.ntmps34
      go_wp2_with (first
        | (go_at_call 60; (with_reducible refine (HC.out _).mono ?_); rintro e w1 ⟨rfl, hw⟩; obtain rfl := hw.symm)
        | (go_at_call 49; (with_reducible refine (HR.out _).mono ?_); rintro e w2 ⟨rfl, hb1⟩; have F1 := (Own3.new w).step hb1; clear hb1; obtain ⟨hB, hL, k0, k1, k2, f0, f1, f2⟩ := id F1))
      refine bodyPost_ret (v := pcV 0 ⟨#[]⟩ 0) (by simp [results, Tryd.results34, go_sem, k0, k1, k2]) rfl ?_
      refine ⟨rfl, ((hB.setCell ?_ _).setCell ?_ _).setCell ?_ _⟩ <;> exact Nat.le_refl _
    | true =>
      have h0 : n = 0 := by simpa using h
      subst h0
      clear h hle
      go_enter Tryd.func34, Tryd.ntmps34
      go_wp2_with (first
        | (go_at_call 60; (with_reducible refine (HC.out _).mono ?_); rintro e w1 ⟨rfl, hw⟩; obtain rfl := hw.symm)
        | (go_at_call 49; (with_reducible refine (HR.out _).mono ?_); rintro e w2 ⟨rfl, hb1⟩; have F1 := (Own3.new w).step hb1; clear hb1; obtain ⟨hB, hL, k0, k1, k2, f0, f1, f2⟩ := id F1))
      refine bodyPost_ret (v := pcV 0 ⟨#[]⟩ 0) (by simp [results, Tryd.results34, go_sem, k0, k1, k2]) rfl ?_
      refine ⟨rfl, ((hB.setCell ?_ _).setCell ?_ _).setCell ?_ _⟩ <;> exact Nat.le_refl _
  · rw [if_neg h]
    have hb : b = true := by
      cases b with
      | true => rfl
      | false => exact absurd (Or.inl rfl) h
    subst hb
    have hn0 : n ≠ 0 := fun e => h (Or.inr e)
    have hl : n + 1 ≤ s.size := by
      rcases hle with h1 | h1 | h1
      · exact h1
      · cases h1
      · exact absurd h1 hn0
    have c0 : ((n : Int) == 0) = false := by rw [beq_eq_false_iff_ne]; omega
    obtain ⟨m, hm⟩ : ∃ m, n + 1 = m := ⟨_, rfl⟩
    have e0 : (n : Int) + 1 = (m : Int) := by omega
    have cw : IntKind.i64.wrap ((n : Int) + 1) = (m : Int) := by rw [e0]; exact IntWalk.i64_in _ (by omega)
    rw [hm] at HK ⊢
    have c1 : (0 : Int) ≤ (m : Int) := by omega
    have c2 : (m : Int) ≤ (s.size : Int) := by omega
    clear h hle hn0 hl hm hs
    have E0 := Lib.hid e0
    clear e0
    go_enter Tryd.func34, Tryd.ntmps34
    go_wp2_with (first
      | (go_at_call 60; (with_reducible refine (HC.out _).mono ?_); rintro e w1 ⟨rfl, hw⟩; obtain rfl := hw.symm)
      | (go_at_call 49; (with_reducible refine (HR.out _).mono ?_); rintro e w2 ⟨rfl, hb1⟩; have F1 := (Own3.new w).step hb1; clear hb1; obtain ⟨hB, hL, k0, k1, k2, f0, f1, f2⟩ := id F1)
      | (go_at_call 20; (with_reducible refine (HK.out _).mono ?_); rintro e w3 ⟨rfl, hb3⟩; have F3 := F1.step hb3; clear hb3 hB hL k0 k1 k2 f0 f1 f2; obtain ⟨hB, hL, k0, k1, k2, f0, f1, f2⟩ := id F3))
    refine bodyPost_ret (v := pcV 5 (s.extract 0 m) (m : Nat)) (by simp [results, Tryd.results34, go_sem, k0, k1, k2]) rfl ?_
    refine ⟨rfl, ((hB.setCell ?_ _).setCell ?_ _).setCell ?_ _⟩ <;> exact Nat.le_refl _
def dolR (s : ByteArray) : ByteArray := if hpB s dolT = true then s.extract 1 s.size else s
def parN (s : ByteArray) : Nat := rowL digB (dolR s).data.toList
theorem param_any (s : ByteArray) (w : World) (hs : s.size ≤ 281474976710656) :
    Calls Tryd.prog 34 #[.string s] w fun e w' => e = .returned (if hpB s dolT = false ∨ parN s = 0 then pcV 0 ⟨#[]⟩ 0 else pcV 5 (s.extract 0 (parN s + 1)) ((parN s + 1 : Nat) : Int)) ∧ Below w.heap.size w w' := by
  refine param_core s (dolR s) (hpB s dolT) (parN s) w rfl ?_ hs (fun w => cutp_any s dolT w)
  cases hb : hpB s dolT with
  | false => exact .inr (.inl rfl)
  | true =>
    have hle : 1 ≤ s.size := by unfold hpB at hb; simp at hb; exact hb.1
    left
    have h1 : parN s ≤ (dolR s).size := by rw [Lib.size_eq]; exact rowL_le _ _
    have h2 : (dolR s).size = s.size - 1 := by unfold dolR; rw [if_pos hb, ByteArray.size_extract]; omega
    omega
end Go.Proofs.YtlmgggipkdmdfaaDoor
