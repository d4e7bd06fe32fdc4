/- What package lexer's own tests of letters answer (letter, digit, inWord, inTag, inNum), and the document's own. Condition: none. -/
import Derived.Test.YtlmgggipkdmdfaaDoorLxp
namespace Go.Proofs.YtlmgggipkdmdfaaDoor
open Go.ChangeShapes Go.WideShapes Go.ChangeAt Go.RowKit
set_option linter.unusedVariables false
set_option linter.unusedSimpArgs false

theorem retb {x y : Bool} (h : x = y) : Ending.returned (.bool x) = Ending.returned (.bool y) := by rw [h]
def letN (n : Int) : Bool := decide (97 ≤ n ∧ n ≤ 122 ∨ 65 ≤ n ∧ n ≤ 90 ∨ n = 95 ∨ 127 < n)
def digN (n : Int) : Bool := decide (48 ≤ n ∧ n ≤ 57)
def wordN (n : Int) : Bool := letN n || digN n || n == 36
def tagN (n : Int) : Bool := letN n || digN n
def numN (n : Int) : Bool := digN n || n == 46

theorem let_any (n : Int) (w : World) : Calls Tryd.prog 53 #[.int .i32 n] w fun e w' => e = .returned (.bool (letN n)) ∧ w' = w := by
  obtain ⟨b, hb⟩ : ∃ b, letN n = b := ⟨_, rfl⟩
  rw [hb]
  have HB := Lib.hid hb
  clear hb
  go_enter Tryd.func53, Tryd.ntmps53
  go_wp2
  all_goals
    go_ret
    refine ⟨?_, rfl⟩
    rw [← HB.out]
    refine retb ?_
    unfold letN
    rw [Bool.eq_iff_iff]
    simp
    try omega
theorem dig_any (n : Int) (w : World) : Calls Tryd.prog 58 #[.int .i32 n] w fun e w' => e = .returned (.bool (digN n)) ∧ w' = w := by
  obtain ⟨b, hb⟩ : ∃ b, digN n = b := ⟨_, rfl⟩
  rw [hb]
  have HB := Lib.hid hb
  clear hb
  go_enter Tryd.func58, Tryd.ntmps58
  go_wp2
  all_goals
    go_ret
    refine ⟨?_, rfl⟩
    rw [← HB.out]
    refine retb ?_
    unfold digN
    rw [Bool.eq_iff_iff]
    simp
    try omega
theorem rlet_any (n : Int) (w : World) : Calls Tryd.prog 38 #[.int .u8 n] w fun e w' => e = .returned (.bool (letN n)) ∧ w' = w := by
  obtain ⟨b, hb⟩ : ∃ b, letN n = b := ⟨_, rfl⟩
  rw [hb]
  have HB := Lib.hid hb
  clear hb
  go_enter Tryd.func38, Tryd.ntmps38
  go_wp2
  all_goals
    go_ret
    refine ⟨?_, rfl⟩
    rw [← HB.out]
    refine retb ?_
    unfold letN
    rw [Bool.eq_iff_iff]
    simp
    try omega
theorem rdig_any (n : Int) (w : World) : Calls Tryd.prog 41 #[.int .u8 n] w fun e w' => e = .returned (.bool (digN n)) ∧ w' = w := by
  obtain ⟨b, hb⟩ : ∃ b, digN n = b := ⟨_, rfl⟩
  rw [hb]
  have HB := Lib.hid hb
  clear hb
  go_enter Tryd.func41, Tryd.ntmps41
  go_wp2
  all_goals
    go_ret
    refine ⟨?_, rfl⟩
    rw [← HB.out]
    refine retb ?_
    unfold digN
    rw [Bool.eq_iff_iff]
    simp
    try omega
theorem let_b (n : Int) (b : Bool) (h : Hid (letN n = b)) (w : World) : Calls Tryd.prog 53 #[.int .i32 n] w fun e w' => e = .returned (.bool b) ∧ w' = w := by
  have := let_any n w
  rw [h.out] at this
  exact this
theorem dig_b (n : Int) (b : Bool) (h : Hid (digN n = b)) (w : World) : Calls Tryd.prog 58 #[.int .i32 n] w fun e w' => e = .returned (.bool b) ∧ w' = w := by
  have := dig_any n w
  rw [h.out] at this
  exact this
theorem word_any (n : Int) (w : World) : Calls Tryd.prog 54 #[.int .i32 n] w fun e w' => e = .returned (.bool (wordN n)) ∧ w' = w := by
  obtain ⟨b0, h0⟩ : ∃ b, letN n = b := ⟨_, rfl⟩
  have H0 := Lib.hid h0
  clear h0
  obtain ⟨b1, h1⟩ : ∃ b, digN n = b := ⟨_, rfl⟩
  have H1 := Lib.hid h1
  clear h1
  cases b0 <;> cases b1
  all_goals
    go_enter Tryd.func54, Tryd.ntmps54
    go_wp2_with (first | (go_at_call 53; (with_reducible refine (let_b n _ H0 _).mono ?_); rintro e w1 ⟨rfl, hw⟩; obtain rfl := hw.symm) | (go_at_call 58; (with_reducible refine (dig_b n _ H1 _).mono ?_); rintro e w1 ⟨rfl, hw⟩; obtain rfl := hw.symm))
  all_goals
    go_ret
    refine ⟨retb ?_, rfl⟩
    unfold wordN
    rw [H0.out, H1.out]
    try simp
theorem tag_any (n : Int) (w : World) : Calls Tryd.prog 73 #[.int .i32 n] w fun e w' => e = .returned (.bool (tagN n)) ∧ w' = w := by
  obtain ⟨b0, h0⟩ : ∃ b, letN n = b := ⟨_, rfl⟩
  have H0 := Lib.hid h0
  clear h0
  obtain ⟨b1, h1⟩ : ∃ b, digN n = b := ⟨_, rfl⟩
  have H1 := Lib.hid h1
  clear h1
  cases b0 <;> cases b1
  all_goals
    go_enter Tryd.func73, Tryd.ntmps73
    go_wp2_with (first | (go_at_call 53; (with_reducible refine (let_b n _ H0 _).mono ?_); rintro e w1 ⟨rfl, hw⟩; obtain rfl := hw.symm) | (go_at_call 58; (with_reducible refine (dig_b n _ H1 _).mono ?_); rintro e w1 ⟨rfl, hw⟩; obtain rfl := hw.symm))
  all_goals
    go_ret
    refine ⟨retb ?_, rfl⟩
    unfold tagN
    rw [H0.out, H1.out]
    try simp
theorem num_any (n : Int) (w : World) : Calls Tryd.prog 59 #[.int .i32 n] w fun e w' => e = .returned (.bool (numN n)) ∧ w' = w := by
  obtain ⟨b0, h0⟩ : ∃ b, digN n = b := ⟨_, rfl⟩
  have H0 := Lib.hid h0
  clear h0
  cases b0
  all_goals
    go_enter Tryd.func59, Tryd.ntmps59
    go_wp2_with (first | (go_at_call 58; (with_reducible refine (dig_b n _ H0 _).mono ?_); rintro e w1 ⟨rfl, hw⟩; obtain rfl := hw.symm))
  all_goals
    go_ret
    refine ⟨retb ?_, rfl⟩
    unfold numN
    rw [H0.out]
    try simp
end Go.Proofs.YtlmgggipkdmdfaaDoor
