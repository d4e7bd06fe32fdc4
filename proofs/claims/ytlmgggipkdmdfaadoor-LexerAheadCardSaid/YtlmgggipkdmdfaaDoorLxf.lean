/- What package lexer's sign and param answer, strings.HasPrefix and CutPrefix. Condition: a text's length; of sign, that it is not empty. -/
import Derived.Test.YtlmgggipkdmdfaaDoorLxe
import Derived.WalkMore
import Derived.BigQuiet
import Derived.IntWalk
import Derived.Deep.QuietTactic
namespace Go.Proofs.YtlmgggipkdmdfaaDoor
open Go.ChangeShapes Go.WideShapes Go.ChangeAt Go.RowKit
set_option linter.unusedVariables false
set_option linter.unusedSimpArgs false

abbrev signT : ByteArray := ⟨#[40, 41, 44, 59, 46, 61, 60, 62, 43, 45, 42, 47, 37, 38, 124, 94, 126, 33, 64, 35, 63, 58, 91, 93]⟩
def signI (c : UInt8) : Int := Lib.indexByte signT.data.toList c
theorem sign_any (s : ByteArray) (h : 0 < s.size) (w : World) : Calls Tryd.prog 35 #[.string s] w fun e w' =>
    e = .returned (if signI (s[0]'h) < 0 then pcV 0 ⟨#[]⟩ 0 else pcV 5 (s.extract 0 1) 1) ∧ Below w.heap.size w w' := by
  obtain ⟨i, hi⟩ : ∃ i, signI (s[0]'h) = i := ⟨_, rfl⟩
  have hc : ∀ w, Calls Tryd.prog 61 #[.string signT, .int .u8 ((s[0]'h).toNat : Int)] w fun e w' => e = .returned (.int .i64 i) ∧ w' = w := by
    intro w
    have := sidx_any signT ((s[0]'h).toNat : Int) w
    rwa [show ((s[0]'h).toNat : Int).toNat.toUInt8 = s[0]'h by simp, show Lib.indexByte signT.data.toList (s[0]'h) = i from hi] at this
  have hk := fun w => clone_any (s.extract 0 1) w (by rw [ByteArray.size_extract]; omega)
  have hz : (0 : Int) < (s.size : Int) := by omega
  have h1 : (1 : Int) ≤ (s.size : Int) := by omega
  rw [hi]
  have HC := Lib.hid hc
  have HK := Lib.hid hk
  clear hc hi hk
  by_cases hi : i < 0
  · rw [if_pos hi]
    go_enter Tryd.func35, Tryd.ntmps35
    go_wp2_with (first
      | (go_at_call 61; (with_reducible refine (HC.out _).mono ?_); rintro e w1 ⟨rfl, hw⟩; obtain rfl := hw.symm))
    refine bodyPost_ret (v := pcV 0 ⟨#[]⟩ 0) (by simp [results, Tryd.results35, go_sem]) rfl ?_
    exact ⟨rfl, (Below.refl _ _).alloc (Nat.le_refl _) _⟩
  · rw [if_neg hi]
    go_enter Tryd.func35, Tryd.ntmps35
    go_wp2_with (first
      | (go_at_call 61; (with_reducible refine (HC.out _).mono ?_); rintro e w1 ⟨rfl, hw⟩; obtain rfl := hw.symm)
      | (go_at_call 20; (with_reducible refine (HK.out _).mono ?_); rintro e w3 ⟨rfl, hb3⟩; have F3 := (Own3.new w).step hb3; clear hb3; obtain ⟨hB, hL, k0, k1, k2, f0, f1, f2⟩ := id F3))
    refine bodyPost_ret (v := pcV 5 (s.extract 0 1) 1) (by simp [results, Tryd.results35, go_sem, k0, k1, k2]) rfl ?_
    refine ⟨rfl, ((hB.setCell ?_ _).setCell ?_ _).setCell ?_ _⟩ <;> exact Nat.le_refl _
def hpB (s p : ByteArray) : Bool := decide (p.size ≤ s.size) && ((s.extract 0 p.size).toList == p.toList)
theorem lhp_any (s p : ByteArray) (w : World) : Calls Tryd.prog 65 #[.string s, .string p] w fun e w' => e = .returned (.bool (hpB s p)) ∧ w' = w := by
  by_cases hle : p.size ≤ s.size
  · have c0 : (p.size : Int) ≤ (s.size : Int) := by omega
    have c1 : (0 : Int) ≤ (p.size : Int) := by omega
    obtain ⟨b, hb⟩ : ∃ b, ((s.extract 0 p.size).toList == p.toList) = b := ⟨_, rfl⟩
    rw [show hpB s p = b by unfold hpB; rw [decide_eq_true hle, hb]; rfl]
    go_enter Tryd.func65, Tryd.ntmps65
    go_wp2
    go_ret
    exact ⟨rfl, rfl⟩
  · have c0 : ¬ ((p.size : Int) ≤ (s.size : Int)) := by omega
    rw [show hpB s p = false by unfold hpB; rw [decide_eq_false hle]; rfl]
    go_enter Tryd.func65, Tryd.ntmps65
    go_wp2
    go_ret
    exact ⟨rfl, rfl⟩
theorem hp_any (s p : ByteArray) (w : World) : Calls Tryd.prog 51 #[.string s, .string p] w fun e w' => e = .returned (.bool (hpB s p)) ∧ w' = w := by
  have h := lhp_any s p
  generalize hpB s p = b at *
  have H := Lib.hid h
  clear h
  go_enter Tryd.func51, Tryd.ntmps51
  go_wp2_with (go_at_call 65; refine (H.out _).mono ?_; rintro e w1 ⟨rfl, hw⟩; obtain rfl := hw.symm)
  go_ret
  exact ⟨rfl, rfl⟩
def cutpV (s p : ByteArray) : Value := .tuple #[.string (if hpB s p = true then s.extract p.size s.size else s), .bool (hpB s p)]
theorem lcutp_any (s p : ByteArray) (w : World) : Calls Tryd.prog 68 #[.string s, .string p] w fun e w' => e = .returned (cutpV s p) ∧ w' = w := by
  have h := lhp_any s p
  unfold cutpV
  cases hb : hpB s p with
  | true =>
    have hle : p.size ≤ s.size := by unfold hpB at hb; simp at hb; exact hb.1
    have c0 : (p.size : Int) ≤ (s.size : Int) := by omega
    have c1 : (0 : Int) ≤ (p.size : Int) := by omega
    rw [hb] at h
    have H := Lib.hid h
    clear h hb
    rw [if_pos rfl]
    go_enter Tryd.func68, Tryd.ntmps68
    go_wp2_with (go_at_call 65; refine (H.out _).mono ?_; rintro e w1 ⟨rfl, hw⟩; obtain rfl := hw.symm)
    go_ret2
    exact ⟨rfl, rfl⟩
  | false =>
    rw [hb] at h
    have H := Lib.hid h
    clear h hb
    rw [if_neg (by simp)]
    go_enter Tryd.func68, Tryd.ntmps68
    go_wp2_with (go_at_call 65; refine (H.out _).mono ?_; rintro e w1 ⟨rfl, hw⟩; obtain rfl := hw.symm)
    go_ret2
    exact ⟨rfl, rfl⟩
theorem cutp_any (s p : ByteArray) (w : World) : Calls Tryd.prog 60 #[.string s, .string p] w fun e w' => e = .returned (cutpV s p) ∧ w' = w := by
  have h := lcutp_any s p
  unfold cutpV at *
  generalize (if hpB s p = true then s.extract p.size s.size else s) = t at *
  generalize hpB s p = b at *
  have H := Lib.hid h
  clear h
  go_enter Tryd.func60, Tryd.ntmps60
  go_wp2_with (go_at_call 68; refine (H.out _).mono ?_; rintro e w1 ⟨rfl, hw⟩; obtain rfl := hw.symm)
  go_ret2
  exact ⟨rfl, rfl⟩
end Go.Proofs.YtlmgggipkdmdfaaDoor
