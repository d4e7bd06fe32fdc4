/- Scan in plain words, step by step, without a count of steps; blanks and remarks. Condition: none. -/
import Derived.Test.YtlmgggipkdmdfaaDoorLzi
import Derived.Test.YtlmgggipkdmdfaaDoorLyb
namespace Go.Proofs.YtlmgggipkdmdfaaDoor
open Go.ChangeShapes Go.WideShapes Go.ChangeAt Go.RowKit
set_option linter.unusedVariables false
set_option linter.unusedSimpArgs false

theorem hp_eq (x p : ByteArray) : hpB x p = p.data.toList.isPrefixOf x.data.toList := by
  unfold hpB
  by_cases h : p.size ≤ x.size
  · rw [decide_eq_true h, Bool.true_and]
    have := starts_eq x p 0 (by omega)
    rw [Nat.zero_add, List.drop_zero] at this
    exact this
  · rw [decide_eq_false h, Bool.false_and]
    have := starts_short x p 0 (by omega) (by omega)
    rw [List.drop_zero] at this
    exact this.symm
theorem find_sized (k : Nat) (hk : k ≤ 10) (r : ByteArray) (hr : 0 < r.size) (p : Pc) (h : findR k r = some p) : p.2.2 = -1 ∨ (1 ≤ p.2.2 ∧ p.2.2 ≤ (r.size : Int)) := by
  induction k with
  | zero => cases h
  | succ k ih =>
    rw [findR] at h
    by_cases h0 : (rdP (9 - k) r).2.2 = 0
    · rw [if_pos h0] at h
      exact ih (by omega) h
    · rw [if_neg h0] at h
      cases h
      rcases rd_sized (9 - k) r hr with h1 | h1 | h1
      · exact absurd h1 h0
      · exact .inl h1
      · exact .inr h1
/-- how much fuel makes no difference, if it is enough -/
theorem scan_fuel (s : ByteArray) : ∀ (n f g a : Nat) (acc : List Tok), s.size - a ≤ n → n < f → n < g → scanN f s a acc = scanN g s a acc := by
  intro n
  induction n with
  | zero =>
    intro f g a acc hn hf hg
    obtain ⟨f, rfl⟩ : ∃ x, f = x + 1 := ⟨f - 1, by omega⟩
    obtain ⟨g, rfl⟩ : ∃ x, g = x + 1 := ⟨g - 1, by omega⟩
    rw [scanN, scanN, if_pos (by omega), if_pos (by omega)]
  | succ n ih =>
    intro f g a acc hn hf hg
    obtain ⟨f, rfl⟩ : ∃ x, f = x + 1 := ⟨f - 1, by omega⟩
    obtain ⟨g, rfl⟩ : ∃ x, g = x + 1 := ⟨g - 1, by omega⟩
    rw [scanN, scanN]
    by_cases h : s.size ≤ a
    · rw [if_pos h, if_pos h]
    · rw [if_neg h, if_neg h]
      cases hf2 : findR 10 (s.extract a s.size) with
      | none => rfl
      | some p =>
        have hsz := find_sized 10 (Nat.le_refl _) _ (by rw [ByteArray.size_extract]; omega) p hf2
        by_cases hp : p.2.2 = -1
        · simp only [hp, if_true]
        · simp only [hp, if_false]
          exact ih f g _ _ (by omega) (by omega) (by omega)
/-- Scan from a place on -/
def scanF (s : ByteArray) (a : Nat) (acc : List Tok) : List Tok × Int × Int := scanN (s.size + 1) s a acc
theorem scanF_end (s : ByteArray) (a : Nat) (acc : List Tok) (h : s.size ≤ a) : scanF s a acc = (acc, 0, 0) := by
  unfold scanF; rw [scanN, if_pos h]
theorem scanF_none (s : ByteArray) (a : Nat) (acc : List Tok) (h : a < s.size) (hf : findR 10 (s.extract a s.size) = none) : scanF s a acc = ([], 7, (a : Int)) := by
  unfold scanF; rw [scanN, if_neg (by omega), hf]
theorem scanF_bad (s : ByteArray) (a : Nat) (acc : List Tok) (h : a < s.size) (p : Pc) (hf : findR 10 (s.extract a s.size) = some p) (hp : p.2.2 = -1) : scanF s a acc = ([], 6, (a : Int)) := by
  unfold scanF; rw [scanN, if_neg (by omega), hf]; simp only [hp, if_true]
theorem scanF_step (s : ByteArray) (a : Nat) (acc : List Tok) (h : a < s.size) (k : Int) (t : ByteArray) (n : Nat) (hn : 0 < n) (hf : findR 10 (s.extract a s.size) = some (k, t, (n : Int))) :
    scanF s a acc = scanF s (a + n) (if k = 0 then acc else acc ++ [(k, t, (a : Int))]) := by
  unfold scanF
  rw [scanN, if_neg (by omega), hf]
  have : ¬ ((n : Int) = -1) := by omega
  simp only [this, if_false, Int.toNat_natCast]
  exact scan_fuel s (s.size - (a + n)) _ _ _ _ (Nat.le_refl _) (by omega) (by omega)
theorem find_first (i : Nat) (hi : i < 10) (r : ByteArray) (h0 : ∀ j, j < i → (rdP j r).2.2 = 0) (h1 : (rdP i r).2.2 ≠ 0) : findR 10 r = some (rdP i r) := by
  have key : ∀ d j, j + d = i → findR (10 - j) r = some (rdP i r) := by
    intro d
    induction d with
    | zero => intro j hj; have : j = i := by omega
              subst this; rw [findR_at j hi, if_neg h1]
    | succ d ih =>
      intro j hj
      rw [findR_at j (by omega), if_pos (h0 j (by omega))]
      exact ih (j + 1) (by omega)
  exact key i 0 (by omega)
theorem find_none (r : ByteArray) (h0 : ∀ j, j < 10 → (rdP j r).2.2 = 0) : findR 10 r = none := by
  have key : ∀ d j, j + d = 10 → findR (10 - j) r = none := by
    intro d
    induction d with
    | zero => intro j hj; have : j = 10 := by omega
              subst this; rfl
    | succ d ih =>
      intro j hj
      rw [findR_at j (by omega), if_pos (h0 j (by omega))]
      exact ih (j + 1) (by omega)
  exact key 10 0 (by omega)
end Go.Proofs.YtlmgggipkdmdfaaDoor
