/- What the reader of dollars finds at a place, in the document's words. Condition: none. -/
import Derived.Test.YtlmgggipkdmdfaaDoorLzm
namespace Go.Proofs.YtlmgggipkdmdfaaDoor
open Go.ChangeShapes Go.WideShapes Go.ChangeAt Go.RowKit
set_option linter.unusedVariables false
set_option linter.unusedSimpArgs false

theorem dol_no_tag (c : UInt8) (h : tagB c = true) : c ≠ 36 := by
  intro h2; subst h2; exact absurd h (by decide)
theorem row_all (p : UInt8 → Bool) : ∀ (l : Tx), rowL p l = l.length → ∀ c ∈ l, p c = true := by
  intro l
  induction l with
  | nil => intro _ c hc; cases hc
  | cons x r ih =>
    intro h c hc
    rw [rowL_cons] at h
    by_cases hx : p x = true
    · rw [if_pos hx] at h
      rcases List.mem_cons.1 hc with rfl | hc
      · exact hx
      · exact ih (by simpa using h) c hc
    · rw [if_neg hx] at h; simp at h
theorem row_app (p : UInt8 → Bool) (x : Tx) (d : UInt8) (y : Tx) (h : ∀ c ∈ x, p c = true) (hd : p d = false) : rowL p (x ++ d :: y) = x.length := by
  induction x with
  | nil => rw [List.nil_append, rowL_cons, hd]; rfl
  | cons c r ih =>
    rw [List.cons_append, rowL_cons, if_pos (h c (by simp)), ih (fun c hc => h c (by simp [hc]))]
    rfl
theorem row_full (p : UInt8 → Bool) (x : Tx) (h : ∀ c ∈ x, p c = true) : rowL p x = x.length := by
  induction x with
  | nil => rfl
  | cons c r ih => rw [rowL_cons, if_pos (h c (by simp)), ih (fun c hc => h c (by simp [hc]))]; rfl
theorem row_take (p : UInt8 → Bool) (l : Tx) : ∀ c ∈ l.take (rowL p l), p c = true := by
  induction l with
  | nil => intro c hc; simp at hc
  | cons x r ih =>
    intro c hc
    rw [rowL_cons] at hc
    by_cases hx : p x = true
    · rw [if_pos hx, List.take_succ_cons] at hc
      rcases List.mem_cons.1 hc with rfl | hc
      · exact hx
      · exact ih c hc
    · rw [if_neg hx] at hc; simp at hc
theorem tw_app (x : Tx) (d : UInt8) (y : Tx) (h : ∀ c ∈ x, c ≠ d) : (x ++ d :: y).takeWhile (· != d) = x := by
  induction x with
  | nil => simp
  | cons c r ih =>
    have hc : (c != d) = true := by rw [bne_iff_ne]; exact h c (by simp)
    rw [List.cons_append, List.takeWhile_cons, if_pos hc, ih (fun c hc => h c (by simp [hc]))]
theorem tw_mem (d : UInt8) (l : Tx) (h : d ∈ l) : ∃ y, l = l.takeWhile (· != d) ++ d :: y := by
  induction l with
  | nil => cases h
  | cons c r ih =>
    by_cases hc : c = d
    · subst hc; exact ⟨r, by simp⟩
    · have h2 : (c != d) = true := by rw [bne_iff_ne]; exact hc
      obtain ⟨y, hy⟩ := ih ((List.mem_cons.1 h).resolve_left (fun e => hc e.symm))
      refine ⟨y, ?_⟩
      rw [List.takeWhile_cons, if_pos h2, List.cons_append]
      congr 1
/-- a tag with its dollar behind: as the code looks for it, and as the document does -/
theorem tag_iff (M : Tx) : ((Lib.cut M [36]).2.2 && isTagL (Lib.cut M [36]).1) = decide ((M.drop (tagL M)).take 1 = [36]) ∧ ((M.drop (tagL M)).take 1 = [36] → (Lib.cut M [36]).1.length = tagL M) := by
  obtain ⟨hc1, hc2⟩ := cut_q 36 M
  have fwd : (Lib.cut M [36]).2.2 = true → isTagL (Lib.cut M [36]).1 = true → (M.drop (tagL M)).take 1 = [36] := by
    intro h1 h2
    obtain ⟨y, hy⟩ := tw_mem 36 M (hc2.1 h1)
    rw [hc1] at h2
    generalize M.takeWhile (· != 36) = U at *
    subst hy
    have ht : tagL (U ++ 36 :: y) = U.length := by
      unfold isTagL at h2
      cases U with
      | nil => rw [List.nil_append, tagL_cons, if_neg (by decide)]; rfl
      | cons c r =>
        simp only [List.isEmpty_cons, Bool.false_or, Bool.and_eq_true, decide_eq_true_iff] at h2
        obtain ⟨h3, h4⟩ := h2
        have hl : letB c = true := by
          rw [rowL_cons] at h3
          by_cases hx : letB c = true
          · exact hx
          · rw [if_neg hx] at h3; omega
        have ha := row_all tagB (c :: r) h4
        rw [List.cons_append, tagL_cons, if_pos hl, row_app tagB r 36 y (fun x hx => ha x (by simp [hx])) (by decide)]
        rfl
    rw [ht, List.drop_left]
    rfl
  have bwd : (M.drop (tagL M)).take 1 = [36] → (Lib.cut M [36]).2.2 = true ∧ isTagL (Lib.cut M [36]).1 = true ∧ (Lib.cut M [36]).1.length = tagL M := by
    intro h
    have hle := tagL_le M
    obtain ⟨y, hy⟩ : ∃ y, M.drop (tagL M) = 36 :: y := by
      cases hd : M.drop (tagL M) with
      | nil => rw [hd] at h; cases h
      | cons c r => rw [hd] at h; simp at h; subst h; exact ⟨r, rfl⟩
    have hM : M = M.take (tagL M) ++ 36 :: y := by rw [← hy, List.take_append_drop]
    have hall : ∀ c ∈ M.take (tagL M), tagB c = true := by
      intro c hc
      unfold tagL at hc
      split at hc
      · simp at hc
      · exact row_take tagB M c hc
    have hlen : (M.take (tagL M)).length = tagL M := by rw [List.length_take]; omega
    have hU : M.takeWhile (· != 36) = M.take (tagL M) := by
      have := tw_app (M.take (tagL M)) 36 y (fun c hc => dol_no_tag c (hall c hc))
      rw [← hM] at this
      exact this
    have hmem : (36 : UInt8) ∈ M := by rw [hM]; simp
    refine ⟨hc2.2 hmem, ?_, by rw [hc1, hU, hlen]⟩
    rw [hc1, hU]
    unfold isTagL
    by_cases h0 : tagL M = 0
    · rw [h0, List.take_zero]; rfl
    · have hr : rowL letB M ≠ 0 := by
        intro hz; apply h0; unfold tagL; rw [if_pos hz]
      have hne : M ≠ [] := by rintro rfl; exact hr rfl
      obtain ⟨c, r, rfl⟩ : ∃ c r, M = c :: r := by
        cases M with
        | nil => exact absurd rfl hne
        | cons c r => exact ⟨c, r, rfl⟩
      have hl : letB c = true := by
        rw [rowL_cons] at hr
        by_cases hx : letB c = true
        · exact hx
        · rw [if_neg hx] at hr; exact absurd rfl hr
      obtain ⟨t, ht⟩ : ∃ t, tagL (c :: r) = t + 1 := ⟨tagL (c :: r) - 1, by omega⟩
      have hrf := row_full tagB _ hall
      rw [hrf]
      have h3 : 0 < rowL letB ((c :: r).take (tagL (c :: r))) := by
        rw [ht, List.take_succ_cons, rowL_cons, if_pos hl]; omega
      simp [h3]
  constructor
  · rw [Bool.eq_iff_iff, Bool.and_eq_true, decide_eq_true_iff]
    exact ⟨fun h => fwd h.1 h.2, fun h => ⟨(bwd h).1, (bwd h).2.1⟩⟩
  · exact fun h => (bwd h).2.2
theorem mark_eq (s : ByteArray) (a : Nat) (h : a < s.size) : markA (rst s a) = if s[a] = 36 ∧ 0 < tagAt s a then s.extract a (tagAt s a).toNat else ⟨#[]⟩ := by
  unfold markA
  rw [dol_hp s a h]
  by_cases hc : s[a] = 36
  · have hcd : cutD (rst s a) = Lib.cut (s.data.toList.drop (a + 1)) [36] := by unfold cutD; rw [dol_rest s a h hc]
    obtain ⟨h1, h2⟩ := tag_iff (s.data.toList.drop (a + 1))
    rw [decide_eq_true hc, Bool.true_and, hcd, h1]
    have e : s.data.toList.drop (a + 1 + tagL (s.data.toList.drop (a + 1))) = (s.data.toList.drop (a + 1)).drop (tagL (s.data.toList.drop (a + 1))) := by rw [List.drop_drop]
    by_cases ht : ((s.data.toList.drop (a + 1)).drop (tagL (s.data.toList.drop (a + 1)))).take 1 = [36]
    · have hta : tagAt s a = ((a + 1 + tagL (s.data.toList.drop (a + 1)) + 1 : Nat) : Int) := by unfold tagAt; rw [e, if_pos ht]
      have hlen : a + 1 + tagL (s.data.toList.drop (a + 1)) + 1 ≤ s.size := by
        have := congrArg List.length ht
        rw [List.length_take, List.length_drop, List.length_drop] at this
        simp only [List.length_singleton] at this
        have e2 : s.size = s.data.toList.length := rfl
        omega
      rw [decide_eq_true ht, if_pos rfl, if_pos ⟨hc, by rw [hta]; omega⟩, h2 ht, hta, Int.toNat_natCast, rst_ext s a _ (by omega)]
      rw [show a + (tagL (s.data.toList.drop (a + 1)) + 2) = a + 1 + tagL (s.data.toList.drop (a + 1)) + 1 by omega]
    · have hta : tagAt s a = -1 := by unfold tagAt; rw [e, if_neg ht]
      rw [decide_eq_false ht, if_neg (by decide), if_neg (by rw [hta]; omega)]
  · rw [decide_eq_false hc, if_neg (by simp), if_neg (fun hh => hc hh.1)]
theorem r6_no (s : ByteArray) (a : Nat) (h : a < s.size) (hc : s[a] ≠ 36 ∨ tagAt s a = -1) : (rdP 6 (rst s a)).2.2 = 0 := by
  show (dolP (rst s a)).2.2 = 0
  have hm := mark_eq s a h
  have hn : ¬ (s[a] = 36 ∧ 0 < tagAt s a) := by
    rintro ⟨h1, h2⟩
    rcases hc with hc | hc
    · exact hc h1
    · omega
  rw [if_neg hn] at hm
  unfold dolP
  rw [hm, if_pos (by rw [ByteArray.toList_eq]; rfl)]
  rfl
theorem r6_yes (s : ByteArray) (a : Nat) (h : a < s.size) (hc : s[a] = 36) (t : Nat) (ht : tagAt s a = (t : Int)) (hat : a < t) (hts : t ≤ s.size) :
    rdP 6 (rst s a) = (match dolAt s a t with | none => (0, ⟨#[]⟩, -1) | some p => (3, bb p.1, ((p.2 - a : Nat) : Int))) := by
  show dolP (rst s a) = _
  have hm := mark_eq s a h
  rw [if_pos ⟨hc, by omega⟩, ht, Int.toNat_natCast] at hm
  have hms : (markA (rst s a)).size = t - a := by rw [hm, ByteArray.size_extract]; omega
  have hcm : cutM (rst s a) = Lib.cut (s.data.toList.drop t) (s.extract a t).data.toList := by
    unfold cutM
    rw [hms, hm]
    congr 1
    have e : (rst s a).size = s.size - a := by rw [ByteArray.size_extract]; omega
    rw [e]
    have e2 : ((rst s a).extract (t - a) (s.size - a)) = (rst s a).extract (t - a) (rst s a).size := by rw [e]
    rw [e2, ext_list, ext_list, List.drop_drop]
    congr 1; omega
  unfold dolP
  have hne : ¬ ((markA (rst s a)).toList.isEmpty = true) := by
    rw [ByteArray.toList_eq]
    intro hh
    have : (markA (rst s a)).data.toList.length = 0 := by rw [List.isEmpty_iff.1 hh]; rfl
    have e : (markA (rst s a)).data.toList.length = (markA (rst s a)).size := rfl
    omega
  rw [if_neg hne, hcm, hms]
  unfold Lib.cut dolAt
  by_cases hi : 0 ≤ Lib.index (s.data.toList.drop t) (s.extract a t).data.toList
  · rw [if_pos hi, if_pos hi, if_neg (by simp)]
    simp only
    obtain ⟨n, hn⟩ : ∃ n : Nat, Lib.index (s.data.toList.drop t) (s.extract a t).data.toList = (n : Int) := ⟨_, (Int.toNat_of_nonneg hi).symm⟩
    have hnl : n ≤ (s.data.toList.drop t).length := by
      rcases Lib.index_spec (s.data.toList.drop t) (s.extract a t).data.toList with ⟨h1, _⟩ | ⟨i, h1, h2, _⟩
      · rw [hn] at h1; omega
      · rw [hn] at h1; have : n = i := by omega
        rw [this]; exact h2
    rw [hn, Int.toNat_natCast]
    have hx : (bb ((s.data.toList.drop t).take n)).size = n := by rw [bb_size, List.length_take]; omega
    have hz : ((t - a : Nat) : Int) + (((bb ((s.data.toList.drop t).take n)).size : Nat) : Int) + ((t - a : Nat) : Int) = ((t + n + (t - a) - a : Nat) : Int) := by rw [hx]; omega
    exact congrArg (fun z => ((3 : Int), bb ((s.data.toList.drop t).take n), z)) hz
  · rw [if_neg hi, if_neg hi, if_pos rfl]
end Go.Proofs.YtlmgggipkdmdfaaDoor
