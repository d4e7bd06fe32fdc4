/- Blanks and remarks: Scan in plain words goes over just the document's gap. Condition: none. -/
import Derived.Test.YtlmgggipkdmdfaaDoorLzj
namespace Go.Proofs.YtlmgggipkdmdfaaDoor
open Go.ChangeShapes Go.WideShapes Go.ChangeAt Go.RowKit
set_option linter.unusedVariables false
set_option linter.unusedSimpArgs false

theorem cut_line (l : Tx) : (Lib.cut l [10]).1 = l.takeWhile notNl := by
  unfold Lib.cut
  induction l with
  | nil => rw [idx_nil _ (by simp)]; rfl
  | cons c r ih =>
    rw [List.takeWhile_cons]
    by_cases h : c = 10
    · subst h
      have e : Lib.index (10 :: r) [10] = 0 := by rw [idx_cons, if_pos]; simp
      rw [e]
      rfl
    · have h1 : ¬ ([10] : Tx).isPrefixOf (c :: r) = true := by
        simp [List.isPrefixOf]; exact fun h2 => h h2.symm
      have h2 : notNl c = true := by unfold notNl; rw [bne_iff_ne]; exact h
      rw [idx_cons, if_neg h1, if_pos h2, ← ih]
      have hge := Lib.index_ge r [10]
      by_cases h3 : Lib.index r [10] = -1
      · rw [if_pos h3, if_neg (by omega), if_neg (by omega)]
      · rw [if_neg h3, if_pos (by omega), if_pos (by omega)]
        obtain ⟨n, hn⟩ : ∃ n : Nat, Lib.index r [10] = (n : Int) := ⟨(Lib.index r [10]).toNat, by omega⟩
        rw [hn]
        show (c :: r).take (n + 1) = c :: r.take n
        rfl
theorem line_size (r : ByteArray) : (lineA r).size = rowL notNl r.data.toList := by
  unfold lineA
  show (Lib.cut r.data.toList [10]).1.toArray.size = _
  rw [cut_line, List.size_toArray]; rfl
theorem z0 (s : ByteArray) (a : Nat) : (rdP 0 (s.extract a s.size)).2.2 = ((rowL fiveQ (s.data.toList.drop a) : Nat) : Int) := by
  show ((rowL fiveQ (s.extract a s.size).data.toList : Nat) : Int) = _
  rw [ext_list]
theorem z1_no (s : ByteArray) (a : Nat) (h : (s.data.toList.drop a).take 2 ≠ [45, 45]) : (rdP 1 (s.extract a s.size)).2.2 = 0 := by
  show (if hpB (s.extract a s.size) dashT = true then ((lineA (s.extract a s.size)).size : Int) else 0) = 0
  rw [hp_eq, ext_list, if_neg]
  exact fun h2 => h ((pfx2 _ _ _).1 h2)
theorem z1_yes (s : ByteArray) (a : Nat) (h : (s.data.toList.drop a).take 2 = [45, 45]) : rdP 1 (s.extract a s.size) = (0, ⟨#[]⟩, ((rowL notNl (s.data.toList.drop a) : Nat) : Int)) := by
  show ((0 : Int), (⟨#[]⟩ : ByteArray), (if hpB (s.extract a s.size) dashT = true then ((lineA (s.extract a s.size)).size : Int) else 0)) = _
  rw [hp_eq, ext_list, if_pos ((pfx2 _ _ _).2 h), line_size, ext_list]
theorem z2_no (s : ByteArray) (a : Nat) (h : (s.data.toList.drop a).take 2 ≠ [47, 42]) : (rdP 2 (s.extract a s.size)).2.2 = 0 := by
  show (if hpB (s.extract a s.size) opnT = true then _ else pc0).2.2 = 0
  rw [hp_eq, ext_list, if_neg]
  · rfl
  · exact fun h2 => h ((pfx2 _ _ _).1 h2)
theorem z2_yes (s : ByteArray) (a : Nat) (h : (s.data.toList.drop a).take 2 = [47, 42]) : rdP 2 (s.extract a s.size) = (0, ⟨#[]⟩, remI ((remL 1 (s.data.toList.drop (a + 2))).map (· + 2))) := by
  show (if hpB (s.extract a s.size) opnT = true then ((0 : Int), (⟨#[]⟩ : ByteArray), remI ((remL 1 ((s.extract a s.size).data.toList.drop 2)).map (· + 2))) else pc0) = _
  rw [hp_eq, ext_list, if_pos ((pfx2 _ _ _).2 h), List.drop_drop]
/-- what stands behind a gap -/
structure Solid (s : ByteArray) (a : Nat) : Prop where
  lt : a < s.size
  blank : fiveQ ((s.data.toList.drop a).headD 0) = false
  line : (s.data.toList.drop a).take 2 ≠ [45, 45]
  rem : (s.data.toList.drop a).take 2 ≠ [47, 42]
theorem five_row (s : ByteArray) (a : Nat) (h : a < s.size) : rowL fiveQ (s.data.toList.drop a) = if fiveQ ((s.data.toList.drop a).headD 0) = true then rowL fiveQ (s.data.toList.drop (a + 1)) + 1 else 0 := by
  rw [byte_at s a h, rowL_cons]; rfl
theorem scan_blank (s : ByteArray) (a : Nat) (acc : List Tok) (h : a < s.size) (hb : fiveQ ((s.data.toList.drop a).headD 0) = true) : scanF s a acc = scanF s (a + 1) acc := by
  have h0 := five_row s a h
  rw [if_pos hb] at h0
  have one : ∀ b, b < s.size → 0 < rowL fiveQ (s.data.toList.drop b) → scanF s b acc = scanF s (b + rowL fiveQ (s.data.toList.drop b)) acc := by
    intro b hb2 hp
    have hf := find_first 0 (by omega) (s.extract b s.size) (fun j hj => by omega) (by rw [z0]; omega)
    have e : rdP 0 (s.extract b s.size) = (0, ⟨#[]⟩, ((rowL fiveQ (s.data.toList.drop b) : Nat) : Int)) := by
      show ((0 : Int), (⟨#[]⟩ : ByteArray), ((rowL fiveQ (s.extract b s.size).data.toList : Nat) : Int)) = _
      rw [ext_list]
    rw [e] at hf
    have := scanF_step s b acc hb2 0 ⟨#[]⟩ _ hp hf
    rwa [if_pos rfl] at this
  rw [one a h (by omega), h0]
  by_cases hn : rowL fiveQ (s.data.toList.drop (a + 1)) = 0
  · rw [hn]
  · have h1 : a + 1 < s.size := by
      rcases Nat.lt_or_ge (a + 1) s.size with h2 | h2
      · exact h2
      · rw [drop_nil s (a + 1) (by omega)] at hn; exact absurd rfl hn
    rw [one (a + 1) h1 (by omega), show a + 1 + rowL fiveQ (s.data.toList.drop (a + 1)) = a + (rowL fiveQ (s.data.toList.drop (a + 1)) + 1) by omega]
theorem scan_line (s : ByteArray) (a : Nat) (acc : List Tok) (h : a < s.size) (hb : fiveQ ((s.data.toList.drop a).headD 0) = false) (hl : (s.data.toList.drop a).take 2 = [45, 45]) : scanF s a acc = scanF s (lineEnd s a) acc := by
  have hg := lineEnd_gt s a hl
  unfold lineEnd at hg ⊢
  have h0 := five_row s a h
  rw [hb, if_neg (by decide)] at h0
  have hj : ∀ j, j < 1 → (rdP j (s.extract a s.size)).2.2 = 0 := by
    intro j hj
    obtain rfl : j = 0 := by omega
    rw [z0, h0]; rfl
  have hf := find_first 1 (by omega) (s.extract a s.size) hj (by rw [z1_yes s a hl]; show ((rowL notNl (s.data.toList.drop a) : Nat) : Int) ≠ 0; omega)
  rw [z1_yes s a hl] at hf
  have := scanF_step s a acc h 0 ⟨#[]⟩ _ (by omega) hf
  rwa [if_pos rfl] at this
theorem scan_rem (s : ByteArray) (a : Nat) (acc : List Tok) (h : a < s.size) (hb : fiveQ ((s.data.toList.drop a).headD 0) = false) (hl : (s.data.toList.drop a).take 2 = [47, 42]) :
    scanF s a acc = (match remAt s a with | none => ([], 6, (a : Int)) | some n => scanF s n acc) := by
  have h0 := five_row s a h
  rw [hb, if_neg (by decide)] at h0
  have hz := z2_yes s a hl
  have h1 : (s.data.toList.drop a).take 2 ≠ [45, 45] := by rw [hl]; decide
  have hj : ∀ j, j < 2 → (rdP j (s.extract a s.size)).2.2 = 0 := by
    intro j hj
    have : j = 0 ∨ j = 1 := by omega
    rcases this with rfl | rfl
    · rw [z0, h0]; rfl
    · exact z1_no s a h1
  unfold remAt
  cases hr : remL 1 (s.data.toList.drop (a + 2)) with
  | none =>
    rw [hr] at hz
    have hf := find_first 2 (by omega) (s.extract a s.size) hj (by rw [hz]; show (-1 : Int) ≠ 0; decide)
    rw [hz] at hf
    exact scanF_bad s a acc h _ hf rfl
  | some n =>
    rw [hr] at hz
    have hz2 : rdP 2 (s.extract a s.size) = (0, ⟨#[]⟩, ((n + 2 : Nat) : Int)) := hz
    have hf := find_first 2 (by omega) (s.extract a s.size) hj (by rw [hz2]; show ((n + 2 : Nat) : Int) ≠ 0; omega)
    rw [hz2] at hf
    have := scanF_step s a acc h 0 ⟨#[]⟩ (n + 2) (by omega) hf
    rw [if_pos rfl] at this
    rw [this]
    show scanF s (a + (n + 2)) acc = scanF s (n + (a + 2)) acc
    rw [show a + (n + 2) = n + (a + 2) by omega]
theorem gapN_end (f : Nat) (s : ByteArray) (a : Nat) (h : s.size ≤ a) : gapN (f + 1) s a = (a, false) := by rw [gapN, if_pos h]
theorem gapN_blank (f : Nat) (s : ByteArray) (a : Nat) (h : ¬ s.size ≤ a) (hb : fiveQ ((s.data.toList.drop a).headD 0) = true) : gapN (f + 1) s a = gapN f s (a + 1) := by rw [gapN, if_neg h, if_pos hb]
theorem gapN_line (f : Nat) (s : ByteArray) (a : Nat) (h : ¬ s.size ≤ a) (hb : fiveQ ((s.data.toList.drop a).headD 0) = false) (hl : (s.data.toList.drop a).take 2 = [45, 45]) : gapN (f + 1) s a = gapN f s (lineEnd s a) := by
  rw [gapN, if_neg h, hb, if_neg (by simp), if_pos hl]
theorem gapN_rem (f : Nat) (s : ByteArray) (a : Nat) (h : ¬ s.size ≤ a) (hb : fiveQ ((s.data.toList.drop a).headD 0) = false) (hl : (s.data.toList.drop a).take 2 ≠ [45, 45]) (hr : (s.data.toList.drop a).take 2 = [47, 42]) :
    gapN (f + 1) s a = (match remAt s a with | none => (a, true) | some n => gapN f s n) := by
  rw [gapN, if_neg h, hb, if_neg (by simp), if_neg hl, if_pos hr]
  cases remAt s a <;> rfl
theorem gapN_stop (f : Nat) (s : ByteArray) (a : Nat) (h : ¬ s.size ≤ a) (hb : fiveQ ((s.data.toList.drop a).headD 0) = false) (hl : (s.data.toList.drop a).take 2 ≠ [45, 45]) (hr : (s.data.toList.drop a).take 2 ≠ [47, 42]) :
    gapN (f + 1) s a = (a, false) := by
  rw [gapN, if_neg h, hb, if_neg (by simp), if_neg hl, if_neg hr]
/-- Scan and the document's gap -/
theorem scan_gap (s : ByteArray) (acc : List Tok) : ∀ (n f a : Nat), s.size - a ≤ n → n < f → a ≤ s.size →
    scanF s a acc = (if (gapN f s a).2 = true then ([], 6, ((gapN f s a).1 : Int)) else scanF s (gapN f s a).1 acc) ∧ a ≤ (gapN f s a).1 ∧ (gapN f s a).1 ≤ s.size ∧
      ((gapN f s a).2 = false → (gapN f s a).1 < s.size → Solid s (gapN f s a).1) := by
  intro n
  induction n with
  | zero =>
    intro f a hn hf ha
    obtain ⟨f, rfl⟩ : ∃ x, f = x + 1 := ⟨f - 1, by omega⟩
    rw [gapN_end f s a (by omega)]
    exact ⟨by simp, Nat.le_refl _, ha, fun _ h => by simp only at h; omega⟩
  | succ n ih =>
    intro f a hn hf ha
    obtain ⟨f, rfl⟩ : ∃ x, f = x + 1 := ⟨f - 1, by omega⟩
    by_cases h : s.size ≤ a
    · rw [gapN_end f s a h]
      exact ⟨by simp, Nat.le_refl _, ha, fun _ h2 => by simp only at h2; omega⟩
    · cases hb : fiveQ ((s.data.toList.drop a).headD 0) with
      | true =>
        rw [gapN_blank f s a h hb]
        obtain ⟨i1, i2, i3, i4⟩ := ih f (a + 1) (by omega) (by omega) (by omega)
        exact ⟨by rw [scan_blank s a acc (by omega) hb]; exact i1, by omega, i3, i4⟩
      | false =>
        by_cases hl : (s.data.toList.drop a).take 2 = [45, 45]
        · rw [gapN_line f s a h hb hl]
          have hg := lineEnd_gt s a hl
          obtain ⟨i1, i2, i3, i4⟩ := ih f (lineEnd s a) (by omega) (by omega) (lineEnd_le s a ha)
          exact ⟨by rw [scan_line s a acc (by omega) hb hl]; exact i1, by omega, i3, i4⟩
        · by_cases hr : (s.data.toList.drop a).take 2 = [47, 42]
          · rw [gapN_rem f s a h hb hl hr]
            have hsr := scan_rem s a acc (by omega) hb hr
            cases hra : remAt s a with
            | none =>
              rw [hra] at hsr
              simp only at hsr ⊢
              exact ⟨by simpa using hsr, Nat.le_refl _, ha, fun h => by cases h⟩
            | some m =>
              rw [hra] at hsr
              simp only at hsr ⊢
              obtain ⟨m1, m2⟩ := remAt_le s a m hra hr
              obtain ⟨i1, i2, i3, i4⟩ := ih f m (by omega) (by omega) m2
              exact ⟨by rw [hsr]; exact i1, by omega, i3, i4⟩
          · rw [gapN_stop f s a h hb hl hr]
            exact ⟨by simp, Nat.le_refl _, ha, fun _ _ => ⟨by omega, hb, hl, hr⟩⟩
end Go.Proofs.YtlmgggipkdmdfaaDoor
