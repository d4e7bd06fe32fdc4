/- An induction over what Scan finds; how many tokens there are, how long their texts, where. Condition: none. -/
import Derived.Test.YtlmgggipkdmdfaaDoorLzq
namespace Go.Proofs.YtlmgggipkdmdfaaDoor
open Go.ChangeShapes Go.WideShapes Go.ChangeAt Go.RowKit
set_option linter.unusedVariables false
set_option linter.unusedSimpArgs false

theorem scan_ind (s : ByteArray) (P : Nat → List Tok → (List Tok × Int × Int) → Prop)
    (hend : ∀ a acc, s.size ≤ a → P a acc (acc, 0, 0))
    (hgap : ∀ a b acc r, a ≤ b → b ≤ s.size → P b acc r → P a acc r)
    (hbad : ∀ (a : Nat) acc (e : Int), a ≤ s.size → e ≠ 0 → P a acc ([], e, (a : Int)))
    (htok : ∀ a acc r, Solid s a → (oneP s a).2.2 = 0 → a < (oneP s a).2.1 → (oneP s a).2.1 ≤ s.size → P (oneP s a).2.1 (acc ++ [(oneP s a).1]) r → P a acc r) :
    ∀ a acc, a ≤ s.size → P a acc (scanF s a acc) := by
  have key : ∀ n a acc, s.size - a ≤ n → a ≤ s.size → P a acc (scanF s a acc) := by
    intro n
    induction n with
    | zero =>
      intro a acc hn ha
      rw [scanF_end s a acc (by omega)]
      exact hend a acc (by omega)
    | succ n ih =>
      intro a acc hn ha
      obtain ⟨g1, g2, g3, g4⟩ := scan_gap s acc (s.size - a) (s.size + 1) a (Nat.le_refl _) (by omega) ha
      rw [g1]
      refine hgap a _ acc _ g2 g3 ?_
      cases hb : (gapN (s.size + 1) s a).2 with
      | true => rw [if_pos rfl]; exact hbad _ acc 6 g3 (by decide)
      | false =>
        rw [if_neg (by decide)]
        by_cases hlt : (gapN (s.size + 1) s a).1 < s.size
        · have hS := g4 hb hlt
          obtain ⟨o1, o2⟩ := scan_one s _ acc hS
          rw [o1]
          by_cases he : (oneP s (gapN (s.size + 1) s a).1).2.2 = 0
          · rw [if_pos he]
            obtain ⟨o3, o4⟩ := o2 he
            exact htok _ acc _ hS he o3 o4 (ih _ _ (by omega) o4)
          · rw [if_neg he]; exact hbad _ acc _ g3 he
        · rw [scanF_end s _ acc (by omega)]
          exact hend _ acc (by omega)
  exact fun a acc ha => key (s.size - a) a acc (Nat.le_refl _) ha
theorem scan_count (s : ByteArray) (a : Nat) (acc : List Tok) (ha : a ≤ s.size) : (scanF s a acc).1.length ≤ acc.length + (s.size - a) :=
  scan_ind s (fun a acc r => r.1.length ≤ acc.length + (s.size - a)) (fun a acc h => by simp only; omega) (fun a b acc r h1 h2 h3 => by omega) (fun a acc e h1 h2 => by simp only [List.length_nil]; omega)
    (fun a acc r hS he h1 h2 h3 => by rw [List.length_append, List.length_singleton] at h3; omega) a acc ha
theorem scanA_count (s : ByteArray) : (scanA s).1.length ≤ 2000 := by
  by_cases h : 2000 < s.size
  · have e : scanA s = ([], 2, 2000) := if_pos h
    rw [e]; exact Nat.zero_le _
  · rw [scanA_F s (by omega)]
    have := scan_count s 0 [] (Nat.zero_le _)
    simp only [List.length_nil] at this
    omega
theorem betL_txt (q : UInt8) (l : Tx) : ∀ p, betL q l = some p → p.1.length ≤ p.2 := by
  intro p
  induction hn : l.length using Nat.strongRecOn generalizing l p with
  | _ n ih =>
    intro h
    cases l with
    | nil => cases h
    | cons c r =>
      rw [betL_cons] at h
      split at h
      · cases r with
        | nil => simp at h; subst h; simp
        | cons d r2 =>
          simp only at h
          split at h
          · rw [Option.map_eq_some_iff] at h
            obtain ⟨k, hk, rfl⟩ := h
            have := ih r2.length (by simp at hn; omega) r2 k rfl hk
            simp; omega
          · simp at h; subst h; simp
      · rw [Option.map_eq_some_iff] at h
        obtain ⟨k, hk, rfl⟩ := h
        have := ih r.length (by simp at hn; omega) r k rfl hk
        simp; omega
theorem ext_size_le (s : ByteArray) (a b : Nat) : (s.extract a b).size ≤ s.size := by rw [ByteArray.size_extract]; omega
theorem small_size (s : ByteArray) : (smallA s).size = s.size := by
  unfold smallA
  show (s.data.toList.map lowB).toArray.size = _
  rw [List.size_toArray, List.length_map]; rfl
theorem quo_txt (s : ByteArray) (a : Nat) (q : UInt8) (p : Tx × Nat) (h : quoAt s a q = some p) : (bb p.1).size ≤ s.size := by
  unfold quoAt at h
  obtain ⟨r, hr, rfl⟩ := Option.map_eq_some_iff.1 h
  have h1 := betL_txt q _ r hr
  have h2 := betL_le q _ r hr
  rw [List.length_drop] at h2
  rw [bb_size]
  have e : s.size = s.data.toList.length := rfl
  simp only; omega
theorem one_txt (s : ByteArray) (a : Nat) : (oneP s a).1.2.1.size ≤ s.size := by
  unfold oneP
  simp only
  have h0 : (⟨#[]⟩ : ByteArray).size ≤ s.size := Nat.zero_le _
  split
  · simp only; rw [small_size]; exact ext_size_le _ _ _
  · split
    · exact ext_size_le _ _ _
    · split
      · cases hq : quoAt s a 34 with
        | none => exact h0
        | some p => exact quo_txt s a 34 p hq
      · split
        · cases hq : quoAt s a 39 with
          | none => exact h0
          | some p => exact quo_txt s a 39 p hq
        · split
          · split
            · cases hq : dolAt s a (tagAt s a).toNat with
              | none => exact h0
              | some p =>
                unfold dolAt at hq
                split at hq
                · cases hq
                  simp only
                  rw [bb_size, List.length_take, List.length_drop]
                  have e : s.size = s.data.toList.length := rfl
                  omega
                · cases hq
            · split
              · exact h0
              · exact ext_size_le _ _ _
          · split
            · exact h0
            · exact ext_size_le _ _ _
theorem scan_txt (s : ByteArray) (a : Nat) (acc : List Tok) (ha : a ≤ s.size) (h : ∀ t ∈ acc, t.2.1.size ≤ s.size) : ∀ t ∈ (scanF s a acc).1, t.2.1.size ≤ s.size :=
  scan_ind s (fun a acc r => (∀ t ∈ acc, t.2.1.size ≤ s.size) → ∀ t ∈ r.1, t.2.1.size ≤ s.size) (fun a acc h h2 => h2) (fun a b acc r h1 h2 h3 => h3) (fun a acc e h1 h2 h3 t ht => by cases ht)
    (fun a acc r hS he h1 h2 h3 h4 => h3 fun t ht => by
      rcases List.mem_append.1 ht with ht | ht
      · exact h4 t ht
      · simp at ht; subst ht; exact one_txt s a) a acc ha h
theorem scanA_txt (s : ByteArray) : ∀ t ∈ (scanA s).1, t.2.1.size ≤ 2000 := by
  by_cases h : 2000 < s.size
  · have e : scanA s = ([], 2, 2000) := if_pos h
    rw [e]; intro t ht; cases ht
  · rw [scanA_F s (by omega)]
    intro t ht
    have := scan_txt s 0 [] (Nat.zero_le _) (fun t ht => by cases ht) t ht
    omega
end Go.Proofs.YtlmgggipkdmdfaaDoor
