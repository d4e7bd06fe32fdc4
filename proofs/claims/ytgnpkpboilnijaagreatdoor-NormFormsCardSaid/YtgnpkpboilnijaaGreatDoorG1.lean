/- Plain mathematics of layer 4: rows of bytes whose letters are all of a sort, as a range over a string sees them. No program is walked here.
   What package lexer's own tests of letters answer (letter, digit, inWord, inTag, inNum), and the document's own. Condition: none. -/
import Derived.Test.YtgnpkpboilnijaaGreatDoorRows
import Derived.WalkKit
import Derived.ProofKit
import Derived.Below
import Derived.IntWalk
import Derived.Lib.Strings
import Derived.Lib.Hide
import Derived.Lib.Walk
import Derived.Laws.RangeString
import Derived.Laws.RangeAny
set_option linter.unusedSimpArgs false
set_option linter.unusedVariables false
namespace Go.Proofs.YtgnpkpboilnijaaGreatDoor
set_option linter.unusedSimpArgs false
open Go.ChangeShapes Go.WideShapes Go.ChangeAt Go.RowKit
set_option maxRecDepth 100000
set_option linter.unusedVariables false

abbrev Tx := List UInt8
/-- what a range over a string sees at a byte above 127: a letter above 127, of at least one byte, whose bytes are all above 127, within the text -/
theorem decode_wide (s : ByteArray) (pos : Nat) (h : pos < s.size) (ha : 128 ≤ (s[pos]'h).toNat) :
    pos + (Utf8.decode s pos).2 ≤ s.size ∧ ∀ j, j < (Utf8.decode s pos).2 → ∀ hj : pos + j < s.size, 128 ≤ (s[pos + j]'hj).toNat := by
  have get : ∀ k, ∀ hk : pos + k < s.size, (s.get! (pos + k)).toNat = (s[pos + k]'hk).toNat := by
    intro k hk
    have : s.get! (pos + k) = s[pos + k]'hk := by
      show s.get! (pos + k) = _
      simp [ByteArray.get!, getElem!_pos, hk]
      rfl
    rw [this]
  have key : ∀ n, (∀ k, 0 < k → k < n → (decide (pos + k < s.size) && (s.get! (pos + k)).toNat / 64 == 2) = true) → pos + n ≤ s.size ∨ n ≤ 1 → (pos + n ≤ s.size ∨ n = 0 ∨ n = 1) → ∀ j, j < n → ∀ hj : pos + j < s.size, 128 ≤ (s[pos + j]'hj).toNat := by
    intro n hn _ _ j hjn hj
    by_cases h0 : j = 0
    · subst h0; exact ha
    · have := hn j (by omega) hjn
      simp only [Bool.and_eq_true, beq_iff_eq] at this
      rw [get j hj] at this
      omega
  have lim : ∀ k, (decide (pos + k < s.size) && (s.get! (pos + k)).toNat / 64 == 2) = true → pos + k < s.size := by
    intro k hk
    simp only [Bool.and_eq_true, decide_eq_true_eq] at hk
    exact hk.1
  have hn0 : ¬ (s.get! (pos + 0)).toNat < 128 := by rw [get 0 h]; exact Nat.not_lt.2 ha
  have one : pos + 1 ≤ s.size ∧ ∀ j, j < 1 → ∀ hj : pos + j < s.size, 128 ≤ (s[pos + j]'hj).toNat := ⟨h, fun j hj hj2 => by
    have : j = 0 := by omega
    subst this; exact ha⟩
  unfold Utf8.decode
  simp only
  rw [if_neg hn0]
  split
  · rename_i h2
    simp only [Bool.and_eq_true] at h2
    split
    · refine ⟨?_, key 2 (fun k k0 k2 => ?_) (.inl ?_) (.inl ?_)⟩
      · have := lim 1 (by simp only [Bool.and_eq_true]; exact h2.2); omega
      · have : k = 1 := by omega
        subst this; simp only [Bool.and_eq_true]; exact h2.2
      · have := lim 1 (by simp only [Bool.and_eq_true]; exact h2.2); omega
      · have := lim 1 (by simp only [Bool.and_eq_true]; exact h2.2); omega
    · exact one
  · split
    · rename_i h3
      simp only [Bool.and_eq_true] at h3
      split
      · have l2 := lim 2 (by simp only [Bool.and_eq_true]; exact h3.2)
        refine ⟨by omega, key 3 (fun k k0 k2 => ?_) (.inl (by omega)) (.inl (by omega))⟩
        have : k = 1 ∨ k = 2 := by omega
        rcases this with rfl | rfl
        · simp only [Bool.and_eq_true]; exact h3.1.2
        · simp only [Bool.and_eq_true]; exact h3.2
      · exact one
    · split
      · rename_i h4
        simp only [Bool.and_eq_true] at h4
        split
        · have l3 := lim 3 (by simp only [Bool.and_eq_true]; exact h4.2)
          refine ⟨by omega, key 4 (fun k k0 k2 => ?_) (.inl (by omega)) (.inl (by omega))⟩
          have : k = 1 ∨ k = 2 ∨ k = 3 := by omega
          rcases this with rfl | rfl | rfl
          · simp only [Bool.and_eq_true]; exact h4.1.1.2
          · simp only [Bool.and_eq_true]; exact h4.1.2
          · simp only [Bool.and_eq_true]; exact h4.2
        · exact one
      · exact one
/-- the next letter of a range over a string, wherever the iterator lies -/
theorem run_next_at_ {P : Program} (w : World) (g : Nat) (s : ByteArray) (pos : Nat) (ty : TypeId) (hg : w.heap[g]? = some (.stringIter s pos)) (h : pos < s.size) :
    (Instr.next (.pointer (some ⟨g, 0, none⟩)) true ty).run P w = .ok (.tuple #[.bool true, .int .i64 pos, .int .i32 ((Utf8.decode s pos).1 : Nat)]) { w with heap := w.heap.setIfInBounds g (.stringIter s (pos + (Utf8.decode s pos).2)) } := by
  have hlt : g < w.heap.size := (Array.getElem?_eq_some_iff.1 hg).1
  simp only [Instr.next, getObj, setObj, Sem.run_bind, Sem.run, hg, Result.andThen, h, if_true]
  simp [goInt, Sem.run, hg, hlt]
theorem run_next_over {P : Program} (w : World) (g : Nat) (s : ByteArray) (pos : Nat) (ty : TypeId) (hg : w.heap[g]? = some (.stringIter s pos)) (h : ¬ pos < s.size) :
    (Instr.next (.pointer (some ⟨g, 0, none⟩)) true ty).run P w = .ok (.tuple #[.bool false]) w := by
  simp [Instr.next, getObj, Sem.run, hg, h]
end Go.Proofs.YtgnpkpboilnijaaGreatDoor
namespace Go.Proofs.YtgnpkpboilnijaaGreatDoor
open Go.ChangeShapes Go.WideShapes Go.ChangeAt Go.RowKit
set_option maxRecDepth 100000
set_option linter.unusedVariables false
set_option linter.unusedSimpArgs false

theorem retb {x y : Bool} (h : x = y) : Ending.returned (.bool x) = Ending.returned (.bool y) := by rw [h]
def letN (n : Int) : Bool := decide (97 ≤ n ∧ n ≤ 122 ∨ 65 ≤ n ∧ n ≤ 90 ∨ n = 95 ∨ 127 < n)
def digN (n : Int) : Bool := decide (48 ≤ n ∧ n ≤ 57)
def wordN (n : Int) : Bool := letN n || digN n || n == 36
def tagN (n : Int) : Bool := letN n || digN n
def numN (n : Int) : Bool := digN n || n == 46

theorem let_any (n : Int) (w : World) : Calls Tryz.prog 84 #[.int .i32 n] w fun e w' => e = .returned (.bool (letN n)) ∧ w' = w := by
  obtain ⟨b, hb⟩ : ∃ b, letN n = b := ⟨_, rfl⟩
  rw [hb]
  have HB := Lib.hid hb
  clear hb
  go_enter Tryz.func84, Tryz.ntmps84
  go_wp2
  all_goals
    go_ret
    refine ⟨?_, rfl⟩
    rw [← HB.out]
    refine retb ?_
    unfold letN
    rw [Bool.eq_iff_iff]
    simp
    try omega
theorem dig_any (n : Int) (w : World) : Calls Tryz.prog 89 #[.int .i32 n] w fun e w' => e = .returned (.bool (digN n)) ∧ w' = w := by
  obtain ⟨b, hb⟩ : ∃ b, digN n = b := ⟨_, rfl⟩
  rw [hb]
  have HB := Lib.hid hb
  clear hb
  go_enter Tryz.func89, Tryz.ntmps89
  go_wp2
  all_goals
    go_ret
    refine ⟨?_, rfl⟩
    rw [← HB.out]
    refine retb ?_
    unfold digN
    rw [Bool.eq_iff_iff]
    simp
    try omega
theorem rlet_any (n : Int) (w : World) : Calls Tryz.prog 47 #[.int .u8 n] w fun e w' => e = .returned (.bool (letN n)) ∧ w' = w := by
  obtain ⟨b, hb⟩ : ∃ b, letN n = b := ⟨_, rfl⟩
  rw [hb]
  have HB := Lib.hid hb
  clear hb
  go_enter Tryz.func47, Tryz.ntmps47
  go_wp2
  all_goals
    go_ret
    refine ⟨?_, rfl⟩
    rw [← HB.out]
    refine retb ?_
    unfold letN
    rw [Bool.eq_iff_iff]
    simp
    try omega
theorem rdig_any (n : Int) (w : World) : Calls Tryz.prog 50 #[.int .u8 n] w fun e w' => e = .returned (.bool (digN n)) ∧ w' = w := by
  obtain ⟨b, hb⟩ : ∃ b, digN n = b := ⟨_, rfl⟩
  rw [hb]
  have HB := Lib.hid hb
  clear hb
  go_enter Tryz.func50, Tryz.ntmps50
  go_wp2
  all_goals
    go_ret
    refine ⟨?_, rfl⟩
    rw [← HB.out]
    refine retb ?_
    unfold digN
    rw [Bool.eq_iff_iff]
    simp
    try omega
theorem let_b (n : Int) (b : Bool) (h : Hid (letN n = b)) (w : World) : Calls Tryz.prog 84 #[.int .i32 n] w fun e w' => e = .returned (.bool b) ∧ w' = w := by
  have := let_any n w
  rw [h.out] at this
  exact this
theorem dig_b (n : Int) (b : Bool) (h : Hid (digN n = b)) (w : World) : Calls Tryz.prog 89 #[.int .i32 n] w fun e w' => e = .returned (.bool b) ∧ w' = w := by
  have := dig_any n w
  rw [h.out] at this
  exact this
theorem word_any (n : Int) (w : World) : Calls Tryz.prog 85 #[.int .i32 n] w fun e w' => e = .returned (.bool (wordN n)) ∧ w' = w := by
  obtain ⟨b0, h0⟩ : ∃ b, letN n = b := ⟨_, rfl⟩
  have H0 := Lib.hid h0
  clear h0
  obtain ⟨b1, h1⟩ : ∃ b, digN n = b := ⟨_, rfl⟩
  have H1 := Lib.hid h1
  clear h1
  cases b0 <;> cases b1
  all_goals
    go_enter Tryz.func85, Tryz.ntmps85
    go_wp2_with (first | (go_at_call 84; (with_reducible refine (let_b n _ H0 _).mono ?_); rintro e w1 ⟨rfl, hw⟩; obtain rfl := hw.symm) | (go_at_call 89; (with_reducible refine (dig_b n _ H1 _).mono ?_); rintro e w1 ⟨rfl, hw⟩; obtain rfl := hw.symm))
  all_goals
    go_ret
    refine ⟨retb ?_, rfl⟩
    unfold wordN
    rw [H0.out, H1.out]
    try simp
theorem tag_any (n : Int) (w : World) : Calls Tryz.prog 118 #[.int .i32 n] w fun e w' => e = .returned (.bool (tagN n)) ∧ w' = w := by
  obtain ⟨b0, h0⟩ : ∃ b, letN n = b := ⟨_, rfl⟩
  have H0 := Lib.hid h0
  clear h0
  obtain ⟨b1, h1⟩ : ∃ b, digN n = b := ⟨_, rfl⟩
  have H1 := Lib.hid h1
  clear h1
  cases b0 <;> cases b1
  all_goals
    go_enter Tryz.func118, Tryz.ntmps118
    go_wp2_with (first | (go_at_call 84; (with_reducible refine (let_b n _ H0 _).mono ?_); rintro e w1 ⟨rfl, hw⟩; obtain rfl := hw.symm) | (go_at_call 89; (with_reducible refine (dig_b n _ H1 _).mono ?_); rintro e w1 ⟨rfl, hw⟩; obtain rfl := hw.symm))
  all_goals
    go_ret
    refine ⟨retb ?_, rfl⟩
    unfold tagN
    rw [H0.out, H1.out]
    try simp
theorem num_any (n : Int) (w : World) : Calls Tryz.prog 90 #[.int .i32 n] w fun e w' => e = .returned (.bool (numN n)) ∧ w' = w := by
  obtain ⟨b0, h0⟩ : ∃ b, digN n = b := ⟨_, rfl⟩
  have H0 := Lib.hid h0
  clear h0
  cases b0
  all_goals
    go_enter Tryz.func90, Tryz.ntmps90
    go_wp2_with (first | (go_at_call 89; (with_reducible refine (dig_b n _ H0 _).mono ?_); rintro e w1 ⟨rfl, hw⟩; obtain rfl := hw.symm))
  all_goals
    go_ret
    refine ⟨retb ?_, rfl⟩
    unfold numN
    rw [H0.out]
    try simp
end Go.Proofs.YtgnpkpboilnijaaGreatDoor
