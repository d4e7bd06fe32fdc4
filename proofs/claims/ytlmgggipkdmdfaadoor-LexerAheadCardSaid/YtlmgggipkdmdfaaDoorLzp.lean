/- Where no gap begins, Scan in plain words goes on as the document's one tells. Condition: none. -/
import Derived.Test.YtlmgggipkdmdfaaDoorLzn
namespace Go.Proofs.YtlmgggipkdmdfaaDoor
open Go.ChangeShapes Go.WideShapes Go.ChangeAt Go.RowKit
set_option linter.unusedVariables false
set_option linter.unusedSimpArgs false

def GoesOn (s : ByteArray) (a : Nat) (acc : List Tok) (r : Tok × Nat × Int) : Prop :=
  scanF s a acc = (if r.2.2 = 0 then scanF s r.2.1 (acc ++ [r.1]) else ([], r.2.2, (a : Int))) ∧ (r.2.2 = 0 → a < r.2.1 ∧ r.2.1 ≤ s.size)
theorem ok_of (s : ByteArray) (a : Nat) (acc : List Tok) (h : a < s.size) (k : Int) (t : ByteArray) (b n : Nat) (hn : a + n = b) (hk : k ≠ 0) (hf : findR 10 (rst s a) = some (k, t, (n : Int))) : GoesOn s a acc ((k, t, (a : Int)), b, 0) := by
  have hsz := find_sized 10 (Nat.le_refl _) _ (by rw [ByteArray.size_extract]; omega) _ hf
  rw [ByteArray.size_extract] at hsz
  simp only at hsz
  have := scanF_step s a acc h k t n (by omega) hf
  rw [if_neg hk, hn] at this
  exact ⟨by rw [if_pos rfl]; exact this, fun _ => ⟨by simp only; omega, by simp only; omega⟩⟩
theorem bad_of (s : ByteArray) (a : Nat) (acc : List Tok) (h : a < s.size) (k : Int) (t : ByteArray) (hf : findR 10 (rst s a) = some (k, t, -1)) : GoesOn s a acc (tok0, 0, 6) :=
  ⟨by rw [if_neg (by decide)]; exact scanF_bad s a acc h _ hf rfl, fun h => absurd h (by decide)⟩
theorem none_of (s : ByteArray) (a : Nat) (acc : List Tok) (h : a < s.size) (hf : findR 10 (rst s a) = none) : GoesOn s a acc (tok0, 0, 7) :=
  ⟨by rw [if_neg (by decide)]; exact scanF_none s a acc h hf, fun h => absurd h (by decide)⟩
theorem below3 {P : Nat → Prop} (h0 : P 0) (h1 : P 1) (h2 : P 2) : ∀ j, j < 3 → P j := by
  intro j hj
  have : j = 0 ∨ j = 1 ∨ j = 2 := by omega
  rcases this with rfl | rfl | rfl
  · exact h0
  · exact h1
  · exact h2
theorem upto_succ {P : Nat → Prop} {n : Nat} (h : ∀ j, j < n → P j) (hn : P n) : ∀ j, j < n + 1 → P j := by
  intro j hj
  by_cases e : j = n
  · subst e; exact hn
  · exact h j (by omega)
theorem dig_not (c : UInt8) (h : digB c = true) : c ≠ 34 ∧ c ≠ 39 ∧ c ≠ 36 := by
  refine ⟨?_, ?_, ?_⟩ <;> (rintro rfl; exact absurd h (by decide))
theorem scan_one (s : ByteArray) (a : Nat) (acc : List Tok) (hS : Solid s a) : GoesOn s a acc (oneP s a) := by
  have h := hS.lt
  have hh := head_at s a h
  have hb := hS.blank
  rw [hh] at hb
  have z0' : (rdP 0 (rst s a)).2.2 = 0 := by
    rw [z0, five_row s a h, hh, hb]; rfl
  have z3 := below3 (P := fun j => (rdP j (rst s a)).2.2 = 0) z0' (z1_no s a hS.line) (z2_no s a hS.rem)
  unfold oneP
  simp only [hh]
  by_cases hl : letB s[a] = true
  · rw [if_pos hl]
    have e := r3_yes s a h hl
    have hf := find_first 3 (by omega) (rst s a) z3 (by rw [e]; have := row_pos wordB s a h (let_word _ hl); show ((rowL wordB (s.data.toList.drop a) : Nat) : Int) ≠ 0; omega)
    rw [e] at hf
    exact ok_of s a acc h 1 _ _ _ rfl (by decide) hf
  · have hl2 : letB s[a] = false := by simpa using hl
    rw [if_neg hl]
    have z4 := upto_succ z3 (r3_no s a h hl2)
    by_cases hd : digB s[a] = true
    · rw [if_pos hd]
      obtain ⟨n1, n2, n3⟩ := dig_not _ hd
      have z7 := upto_succ (upto_succ (upto_succ z4 (r45_no 34 2 s a h n1)) (r45_no 39 3 s a h n2)) (r6_no s a h (.inl n3))
      have e := r7_yes s a h hd
      have hf := find_first 7 (by omega) (rst s a) z7 (by rw [e]; have := row_pos numB s a h (dig_num _ hd); show ((rowL numB (s.data.toList.drop a) : Nat) : Int) ≠ 0; omega)
      rw [e] at hf
      exact ok_of s a acc h 4 _ _ _ rfl (by decide) hf
    · have hd2 : digB s[a] = false := by simpa using hd
      rw [if_neg hd]
      by_cases h34 : s[a] = 34
      · rw [if_pos h34]
        have e : rdP 4 (rst s a) = _ := r45_yes 34 2 s a h h34
        cases hq : quoAt s a 34 with
        | none =>
          rw [hq] at e
          have hf := find_first 4 (by omega) (rst s a) z4 (by rw [e]; show (-1 : Int) ≠ 0; decide)
          rw [e] at hf
          exact bad_of s a acc h _ _ hf
        | some p =>
          rw [hq] at e
          have hp : a < p.2 := by
            unfold quoAt at hq
            obtain ⟨r, _, rfl⟩ := Option.map_eq_some_iff.1 hq
            simp only; omega
          have hf := find_first 4 (by omega) (rst s a) z4 (by rw [e]; show ((p.2 - a : Nat) : Int) ≠ 0; omega)
          rw [e] at hf
          exact ok_of s a acc h 2 _ _ _ (by omega) (by decide) hf
      · rw [if_neg h34]
        have z5 := upto_succ z4 (r45_no 34 2 s a h h34)
        by_cases h39 : s[a] = 39
        · rw [if_pos h39]
          have e : rdP 5 (rst s a) = _ := r45_yes 39 3 s a h h39
          cases hq : quoAt s a 39 with
          | none =>
            rw [hq] at e
            have hf := find_first 5 (by omega) (rst s a) z5 (by rw [e]; show (-1 : Int) ≠ 0; decide)
            rw [e] at hf
            exact bad_of s a acc h _ _ hf
          | some p =>
            rw [hq] at e
            have hp : a < p.2 := by
              unfold quoAt at hq
              obtain ⟨r, _, rfl⟩ := Option.map_eq_some_iff.1 hq
              simp only; omega
            have hf := find_first 5 (by omega) (rst s a) z5 (by rw [e]; show ((p.2 - a : Nat) : Int) ≠ 0; omega)
            rw [e] at hf
            exact ok_of s a acc h 3 _ _ _ (by omega) (by decide) hf
        · rw [if_neg h39]
          have z6 := upto_succ z5 (r45_no 39 3 s a h h39)
          by_cases h36 : s[a] = 36
          · rw [if_pos h36]
            rcases tagAt_cases s a h with ht | ⟨t1, t2, t3⟩
            · rw [if_neg (by omega)]
              have z8 := upto_succ (upto_succ z6 (r6_no s a h (.inr ht))) (r7_no s a h hd2)
              by_cases hp : rowL digB (s.data.toList.drop (a + 1)) = 0
              · rw [if_pos hp]
                have z10 := upto_succ (upto_succ z8 (r8_no s a h (.inr hp))) (r9_no s a h (by rw [h36]; decide))
                exact none_of s a acc h (find_none _ z10)
              · rw [if_neg hp]
                have e := r8_yes s a h h36 hp
                have hf := find_first 8 (by omega) (rst s a) z8 (by rw [e]; show ((1 + rowL digB (s.data.toList.drop (a + 1)) : Nat) : Int) ≠ 0; omega)
                rw [e] at hf
                exact ok_of s a acc h 5 _ _ _ (by omega) (by decide) hf
            · rw [if_pos (by omega)]
              have e := r6_yes s a h h36 _ t3 (by omega) t2
              cases hq : dolAt s a (tagAt s a).toNat with
              | none =>
                rw [hq] at e
                have hf := find_first 6 (by omega) (rst s a) z6 (by rw [e]; show (-1 : Int) ≠ 0; decide)
                rw [e] at hf
                exact bad_of s a acc h _ _ hf
              | some p =>
                rw [hq] at e
                have hp : a < p.2 := by
                  unfold dolAt at hq
                  split at hq
                  · cases hq; simp only; omega
                  · cases hq
                have hf := find_first 6 (by omega) (rst s a) z6 (by rw [e]; show ((p.2 - a : Nat) : Int) ≠ 0; omega)
                rw [e] at hf
                exact ok_of s a acc h 3 _ _ _ (by omega) (by decide) hf
          · rw [if_neg h36]
            have z9 := upto_succ (upto_succ (upto_succ z6 (r6_no s a h (.inl h36))) (r7_no s a h hd2)) (r8_no s a h (.inl h36))
            by_cases hg : signI s[a] < 0
            · rw [if_pos hg]
              exact none_of s a acc h (find_none _ (upto_succ z9 (r9_no s a h hg)))
            · rw [if_neg hg]
              have e := r9_yes s a h hg
              have hf := find_first 9 (by omega) (rst s a) z9 (by rw [e]; show (1 : Int) ≠ 0; decide)
              rw [e] at hf
              exact ok_of s a acc h 5 _ _ 1 rfl (by decide) hf
end Go.Proofs.YtlmgggipkdmdfaaDoor
