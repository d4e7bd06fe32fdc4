/- What Scan finds is shown and scanned as it was; places rise; what a wrong text is told. Condition: none. -/
import Derived.Test.YtlmgggipkdmdfaaDoorLzs
namespace Go.Proofs.YtlmgggipkdmdfaaDoor
open Go.ChangeShapes Go.WideShapes Go.ChangeAt Go.RowKit
set_option linter.unusedVariables false
set_option linter.unusedSimpArgs false

theorem take_row (s : ByteArray) (a : Nat) (p : UInt8 → Bool) (ha : a ≤ s.size) : s.extract a (a + rowL p (s.data.toList.drop a)) = bb ((s.data.toList.drop a).take (rowL p (s.data.toList.drop a))) := by
  have := ext_to s a (a + rowL p (s.data.toList.drop a)) (row_end s p a ha)
  rw [this]
  congr 2; omega
theorem one_good (s : ByteArray) (a : Nat) (hS : Solid s a) (he : (oneP s a).2.2 = 0) : Good (oneP s a).1.1 (oneP s a).1.2.1 := by
  have h := hS.lt
  have hh := head_at s a h
  unfold oneP at he ⊢
  simp only [hh] at he ⊢
  by_cases hl : letB s[a] = true
  · rw [if_pos hl] at he ⊢
    show Good 1 (smallA _)
    rw [take_row s a wordB (by omega)]
    have e : smallA (bb ((s.data.toList.drop a).take (rowL wordB (s.data.toList.drop a)))) = bb (((s.data.toList.drop a).take (rowL wordB (s.data.toList.drop a))).map lowB) := rfl
    rw [e]
    have hn := row_pos wordB s a h (let_word _ hl)
    refine good_word _ (lowB s[a]) (((s.data.toList.drop (a + 1)).take (rowL wordB (s.data.toList.drop (a + 1)))).map lowB) ?_ (by rw [(low_facts _).2.2]; exact hl) ?_ ?_
    · rw [hn, byte_at s a h, List.take_succ_cons, List.map_cons]
    · intro d hd
      obtain ⟨c, hc, rfl⟩ := List.mem_map.1 hd
      rw [(low_facts c).2.1]
      exact row_take wordB _ c hc
    · intro d hd
      obtain ⟨c, hc, rfl⟩ := List.mem_map.1 hd
      exact (low_facts c).1
  · rw [if_neg hl] at he ⊢
    by_cases hd : digB s[a] = true
    · rw [if_pos hd] at he ⊢
      show Good 4 _
      rw [take_row s a numB (by omega)]
      have hn := row_pos numB s a h (dig_num _ hd)
      refine good_num _ s[a] ((s.data.toList.drop (a + 1)).take (rowL numB (s.data.toList.drop (a + 1)))) ?_ hd ?_
      · rw [hn, byte_at s a h, List.take_succ_cons]
      · intro d hd
        exact row_take numB _ d hd
    · rw [if_neg hd] at he ⊢
      by_cases h34 : s[a] = 34
      · rw [if_pos h34] at he ⊢
        cases hq : quoAt s a 34 with
        | none => rw [hq] at he; exact absurd (show (6 : Int) = 0 from he) (by decide)
        | some p => exact good_quoted _
      · rw [if_neg h34] at he ⊢
        by_cases h39 : s[a] = 39
        · rw [if_pos h39] at he ⊢
          cases hq : quoAt s a 39 with
          | none => rw [hq] at he; exact absurd (show (6 : Int) = 0 from he) (by decide)
          | some p => exact good_str _
        · rw [if_neg h39] at he ⊢
          by_cases h36 : s[a] = 36
          · rw [if_pos h36] at he ⊢
            by_cases ht : 0 < tagAt s a
            · rw [if_pos ht] at he ⊢
              cases hq : dolAt s a (tagAt s a).toNat with
              | none => rw [hq] at he; exact absurd (show (6 : Int) = 0 from he) (by decide)
              | some p => exact good_str _
            · rw [if_neg ht] at he ⊢
              by_cases hp : rowL digB (s.data.toList.drop (a + 1)) = 0
              · rw [if_pos hp] at he; exact absurd he (by decide)
              · rw [if_neg hp] at he ⊢
                show Good 5 _
                have e : s.extract a (a + 1 + rowL digB (s.data.toList.drop (a + 1))) = bb (36 :: (s.data.toList.drop (a + 1)).take (rowL digB (s.data.toList.drop (a + 1)))) := by
                  rw [ext_to s a _ (row_end s digB (a + 1) (by omega)), show a + 1 + rowL digB (s.data.toList.drop (a + 1)) - a = rowL digB (s.data.toList.drop (a + 1)) + 1 by omega]
                  congr 1
                  have hb := byte_at s a h
                  rw [h36] at hb
                  rw [hb, List.take_succ_cons]
                rw [e]
                refine good_param _ ?_ fun d hd => row_take digB _ d hd
                intro hz
                have := congrArg List.length hz
                rw [List.length_take, List.length_nil] at this
                have h2 := rowL_le digB (s.data.toList.drop (a + 1))
                omega
          · rw [if_neg h36] at he ⊢
            by_cases hg : signI s[a] < 0
            · rw [if_pos hg] at he; exact absurd he (by decide)
            · rw [if_neg hg]
              show Good 5 _
              rw [ext_one s a h]
              exact good_sign s[a] (by omega)
theorem one_place (s : ByteArray) (a : Nat) (he : (oneP s a).2.2 = 0) : (oneP s a).1.2.2 = (a : Int) := by
  unfold oneP at he ⊢
  simp only at he ⊢
  split at he <;> rename_i h1
  · rw [if_pos h1]
  · rw [if_neg h1]
    split at he <;> rename_i h2
    · rw [if_pos h2]
    · rw [if_neg h2]
      split at he <;> rename_i h3
      · rw [if_pos h3]
        cases hq : quoAt s a 34 with
        | none => rw [hq] at he; exact absurd (show (6 : Int) = 0 from he) (by decide)
        | some p => rfl
      · rw [if_neg h3]
        split at he <;> rename_i h4
        · rw [if_pos h4]
          cases hq : quoAt s a 39 with
          | none => rw [hq] at he; exact absurd (show (6 : Int) = 0 from he) (by decide)
          | some p => rfl
        · rw [if_neg h4]
          split at he <;> rename_i h5
          · rw [if_pos h5]
            split at he <;> rename_i h6
            · rw [if_pos h6]
              cases hq : dolAt s a (tagAt s a).toNat with
              | none => rw [hq] at he; exact absurd (show (6 : Int) = 0 from he) (by decide)
              | some p => rfl
            · rw [if_neg h6]
              split at he <;> rename_i h7
              · exact absurd he (by decide)
              · rw [if_neg h7]
          · rw [if_neg h5]
            split at he <;> rename_i h6
            · exact absurd he (by decide)
            · rw [if_neg h6]
theorem scan_all_good (s : ByteArray) (a : Nat) (acc : List Tok) (ha : a ≤ s.size) (h : ∀ t ∈ acc, Good t.1 t.2.1) : ∀ t ∈ (scanF s a acc).1, Good t.1 t.2.1 :=
  scan_ind s (fun a acc r => (∀ t ∈ acc, Good t.1 t.2.1) → ∀ t ∈ r.1, Good t.1 t.2.1) (fun a acc h h2 => h2) (fun a b acc r h1 h2 h3 => h3) (fun a acc e h1 h2 h3 t ht => by cases ht)
    (fun a acc r hS he h1 h2 h3 h4 => h3 fun t ht => by
      rcases List.mem_append.1 ht with ht | ht
      · exact h4 t ht
      · simp at ht; subst ht; exact one_good s a hS he) a acc ha h
/-- places rise -/
def Rise (l : List Tok) : Prop := ∀ (i : Nat) (x y : Tok), l[i]? = some x → l[i + 1]? = some y → x.2.2 < y.2.2
theorem rise_snoc (l : List Tok) (t : Tok) (h : Rise l) (ht : ∀ x ∈ l, x.2.2 < t.2.2) : Rise (l ++ [t]) := by
  intro i x y hx hy
  have hlt := (List.getElem?_eq_some_iff.1 hy).1
  rw [List.length_append, List.length_singleton] at hlt
  by_cases hi : i + 1 < l.length
  · rw [List.getElem?_append_left (by omega)] at hx
    rw [List.getElem?_append_left hi] at hy
    exact h i x y hx hy
  · rw [List.getElem?_append_left (by omega)] at hx
    rw [List.getElem?_append_right (by omega)] at hy
    have : i + 1 - l.length = 0 := by omega
    rw [this] at hy
    simp at hy; subst hy
    exact ht x (List.mem_of_getElem? hx)
theorem scan_rise (s : ByteArray) (a : Nat) (acc : List Tok) (ha : a ≤ s.size) (h : (∀ t ∈ acc, t.2.2 < (a : Int)) ∧ Rise acc) : Rise (scanF s a acc).1 :=
  scan_ind s (fun a acc r => ((∀ t ∈ acc, t.2.2 < (a : Int)) ∧ Rise acc) → Rise r.1) (fun a acc h h2 => h2.2) (fun a b acc r h1 h2 h3 h4 => h3 ⟨fun t ht => by have := h4.1 t ht; omega, h4.2⟩) (fun a acc e h1 h2 h3 i x y hx => by cases hx)
    (fun a acc r hS he h1 h2 h3 h4 => h3 (by
      have hp := one_place s a he
      refine ⟨fun t ht => ?_, rise_snoc acc _ h4.2 fun x hx => by rw [hp]; exact h4.1 x hx⟩
      rcases List.mem_append.1 ht with ht | ht
      · have := h4.1 t ht; omega
      · simp at ht; subst ht; rw [hp]; omega)) a acc ha h
/-- a text that is wrong has no tokens; the fault stands in the text -/
theorem scan_wrong (s : ByteArray) (a : Nat) (acc : List Tok) (ha : a ≤ s.size) : (scanF s a acc).2.1 ≠ 0 → (scanF s a acc).1 = [] ∧ 0 ≤ (scanF s a acc).2.2 ∧ (scanF s a acc).2.2 ≤ (s.size : Int) :=
  scan_ind s (fun a acc r => r.2.1 ≠ 0 → r.1 = [] ∧ 0 ≤ r.2.2 ∧ r.2.2 ≤ (s.size : Int)) (fun a acc h h2 => absurd rfl h2) (fun a b acc r h1 h2 h3 => h3) (fun a acc e h1 h2 h3 => ⟨rfl, by simp only; omega, by simp only; omega⟩)
    (fun a acc r hS he h1 h2 h3 => h3) a acc ha
/-- what is told of a right text has no place -/
theorem scan_right (s : ByteArray) (a : Nat) (acc : List Tok) (ha : a ≤ s.size) : (scanF s a acc).2.1 = 0 → (scanF s a acc).2.2 = 0 :=
  scan_ind s (fun a acc r => r.2.1 = 0 → r.2.2 = 0) (fun a acc h h2 => rfl) (fun a b acc r h1 h2 h3 => h3) (fun a acc e h1 h2 h3 => absurd h3 h2) (fun a acc r hS he h1 h2 h3 => h3) a acc ha
theorem scan_good (x : ByteArray) (a : Nat) (acc : List Tok) (k : Int) (t : ByteArray) (b : Nat) (hS : Solid x a) (e : oneP x a = ((k, t, (a : Int)), b, 0)) : scanF x a acc = scanF x b (acc ++ [(k, t, (a : Int))]) := by
  have h := (scan_one x a acc hS).1
  rw [e] at h
  exact h
theorem drop_app (x : ByteArray) (a : Nat) (l rest : Tx) (h : x.data.toList.drop a = l ++ rest) : x.data.toList.drop (a + l.length) = rest := by
  rw [← List.drop_drop, h, List.drop_left]
theorem tail_gap (l : List Tok) : Gap (tailL l) := by
  cases l with
  | nil => exact .inl rfl
  | cons t r => exact .inr ⟨shownL t ++ tailL r, by simp [tailL]⟩
theorem alike_cons (x y : Tok) (l m : List Tok) (h1 : x.1 = y.1) (h2 : x.2.1 = y.2.1) (h : Alike false l m) : Alike false (x :: l) (y :: m) := by
  refine ⟨by simp [h.1], fun i a b ha hb => ?_⟩
  cases i with
  | zero => simp at ha hb; subst ha hb; exact ⟨h1, h2, fun h => by cases h⟩
  | succ i => exact h.2 i a b (by simpa using ha) (by simpa using hb)
theorem back_tail : ∀ (l : List Tok), (∀ t ∈ l, Good t.1 t.2.1) → ∀ (x : ByteArray) (a : Nat) (acc : List Tok), x.data.toList.drop a = tailL l → ∃ m, scanF x a acc = (acc ++ m, 0, 0) ∧ Alike false l m := by
  intro l
  induction l with
  | nil =>
    intro _ x a acc hd
    have : x.size ≤ a := by
      have h1 := congrArg List.length hd
      rw [List.length_drop] at h1
      have e : x.size = x.data.toList.length := rfl
      simp [tailL] at h1; omega
    exact ⟨[], by rw [scanF_end x a acc this, List.append_nil], Alike.refl _ _⟩
  | cons t r ih =>
    intro hg x a acc hd
    have hd2 : x.data.toList.drop a = 32 :: (shownL t ++ tailL r) := by rw [hd]; simp [tailL]
    obtain ⟨h1, h2, h3⟩ := head_lt x a 32 _ hd2
    obtain ⟨hS, ho⟩ := hg t (by simp) x (a + 1) (tailL r) t.2.2 h3 (tail_gap r)
    obtain ⟨m, hm, ha⟩ := ih (fun u hu => hg u (by simp [hu])) x (a + 1 + (shownL t).length) (acc ++ [(t.1, t.2.1, ((a + 1 : Nat) : Int))]) (drop_app x (a + 1) _ _ h3)
    refine ⟨(t.1, t.2.1, ((a + 1 : Nat) : Int)) :: m, ?_, alike_cons _ _ _ _ rfl rfl ha⟩
    rw [scan_blank x a acc h1 (by rw [h2]; decide), scan_good x (a + 1) acc t.1 t.2.1 _ hS ho]
    rw [show (t.1, t.2.1, t.2.2) = t from rfl, hm, List.append_assoc]; rfl
theorem back (l : List Tok) (hg : ∀ t ∈ l, Good t.1 t.2.1) : ∃ m, scanF (bb (showL l)) 0 [] = (m, 0, 0) ∧ Alike false l m := by
  cases l with
  | nil => exact ⟨[], by rw [scanF_end _ _ _ (by show (showL []).toArray.size ≤ 0; exact Nat.le_refl _)], Alike.refl _ _⟩
  | cons t r =>
    have hd : (bb (showL (t :: r))).data.toList.drop 0 = shownL t ++ tailL r := by simp [showL]
    obtain ⟨hS, ho⟩ := hg t (by simp) (bb (showL (t :: r))) 0 (tailL r) t.2.2 hd (tail_gap r)
    obtain ⟨m, hm, ha⟩ := back_tail r (fun u hu => hg u (by simp [hu])) (bb (showL (t :: r))) (0 + (shownL t).length) [(t.1, t.2.1, ((0 : Nat) : Int))] (drop_app _ 0 _ _ hd)
    refine ⟨(t.1, t.2.1, ((0 : Nat) : Int)) :: m, ?_, alike_cons _ _ _ _ rfl rfl ha⟩
    rw [scan_good _ 0 [] t.1 t.2.1 _ hS ho]
    rw [show (t.1, t.2.1, t.2.2) = t from rfl]
    exact hm
end Go.Proofs.YtlmgggipkdmdfaaDoor
