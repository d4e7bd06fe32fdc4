/- A token that is shown, with a blank or nothing behind it, is scanned as itself. Condition: none.
   What Scan finds is shown and scanned as it was; places rise; what a wrong text is told. Condition: none.
   Normal forms, and parameters, in plain words. Condition: none.
   What package norm's number answers: its closures first. Condition: a text's length.
   What package norm's number answers. Condition: a text's length. -/
import Derived.Test.YtgnpkpboilnijaaGreatDoorG17
import Derived.WalkMore
import Derived.BigQuiet
import Derived.RegionTactic
set_option linter.unusedSimpArgs false
set_option linter.unusedVariables false
namespace Go.Proofs.YtgnpkpboilnijaaGreatDoor
open Go.ChangeShapes Go.WideShapes Go.ChangeAt Go.RowKit
set_option maxRecDepth 100000
set_option linter.unusedVariables false
set_option linter.unusedSimpArgs false

/-- nothing, or a blank -/
def Gap (l : Tx) : Prop := l = [] ∨ ∃ r, l = 32 :: r
/-- a token whose text is scanned as it -/
def Good (k : Int) (t : ByteArray) : Prop := ∀ (x : ByteArray) (a : Nat) (rest : Tx) (p : Int), x.data.toList.drop a = shownL (k, t, p) ++ rest → Gap rest → Solid x a ∧ oneP x a = ((k, t, (a : Int)), a + (shownL (k, t, p)).length, 0)
theorem row_gap (p : UInt8 → Bool) (l rest : Tx) (hp : ∀ c ∈ l, p c = true) (h32 : p 32 = false) (hg : Gap rest) : rowL p (l ++ rest) = l.length := by
  rcases hg with rfl | ⟨r, rfl⟩
  · rw [List.append_nil]; exact row_full p l hp
  · exact row_app p l 32 r hp h32
theorem head_lt (x : ByteArray) (a : Nat) (c : UInt8) (r : Tx) (h : x.data.toList.drop a = c :: r) : a < x.size ∧ (x.data.toList.drop a).headD 0 = c ∧ x.data.toList.drop (a + 1) = r := by
  have h1 := congrArg List.length h
  rw [List.length_drop, List.length_cons] at h1
  refine ⟨by have e : x.size = x.data.toList.length := rfl
             omega, by rw [h]; rfl, ?_⟩
  rw [← List.drop_drop, h]; rfl
theorem ext_at (x : ByteArray) (a n : Nat) (l rest : Tx) (h : x.data.toList.drop a = l ++ rest) (hn : n = l.length) : x.extract a (a + n) = bb l := by
  apply ByteArray.ext
  apply Array.ext'
  rw [ByteArray.data_extract, Array.toList_extract, List.extract_eq_take_drop, h, show a + n - a = n by omega, hn]
  simp
def five_bytesT (c : UInt8) : Bool := !(fiveQ c) || (!(wordB c) && !(numB c) && decide (signI c < 0) && (c != 34) && (c != 39) && (c != 36) && (c != 45) && (c != 47))
theorem five_bytes : ((List.range 256).all fun n => five_bytesT (UInt8.ofNat n)) = true := by kernel_rfl
theorem byte_all {f : UInt8 → Bool} (h : ((List.range 256).all fun n => f (UInt8.ofNat n)) = true) (c : UInt8) : f c = true := by
  have := List.all_eq_true.1 h c.toNat (List.mem_range.2 c.toNat_lt)
  simpa using this
theorem not_five (c : UInt8) (h : wordB c = true ∨ numB c = true ∨ 0 ≤ signI c ∨ c = 34 ∨ c = 39 ∨ c = 36) : fiveQ c = false := by
  have h0 := byte_all (f := five_bytesT) five_bytes c
  unfold five_bytesT at h0
  cases hf : fiveQ c with
  | false => rfl
  | true =>
    rw [hf] at h0
    simp only [Bool.not_true, Bool.false_or, Bool.and_eq_true, Bool.not_eq_true', decide_eq_true_iff, bne_iff_ne] at h0
    obtain ⟨⟨⟨⟨⟨⟨⟨h1, h2⟩, h3⟩, h4⟩, h5⟩, h6⟩, h7⟩, h8⟩ := h0
    rcases h with h | h | h | h | h | h
    · rw [h1] at h; cases h
    · rw [h2] at h; cases h
    · omega
    · exact absurd h h4
    · exact absurd h h5
    · exact absurd h h6
/-- where a token may begin -/
theorem solid_of (x : ByteArray) (a : Nat) (c : UInt8) (r : Tx) (h : x.data.toList.drop a = c :: r) (hc : fiveQ c = false) (h45 : c ≠ 45 ∨ r.take 1 ≠ [45]) (h47 : c ≠ 47 ∨ r.take 1 ≠ [42]) : Solid x a := by
  obtain ⟨h1, h2, h3⟩ := head_lt x a c r h
  refine ⟨h1, by rw [h2]; exact hc, ?_, ?_⟩
  · rw [h, List.take_succ_cons]
    intro hh
    injection hh with h4 h5
    rcases h45 with h6 | h6
    · exact h6 h4
    · exact h6 h5
  · rw [h, List.take_succ_cons]
    intro hh
    injection hh with h4 h5
    rcases h47 with h6 | h6
    · exact h6 h4
    · exact h6 h5
def word_bytesT (c : UInt8) : Bool := !(wordB c) || ((c != 45) && (c != 47))
theorem word_bytes : ((List.range 256).all fun n => word_bytesT (UInt8.ofNat n)) = true := by kernel_rfl
def num_bytesT (c : UInt8) : Bool := !(numB c) || ((c != 45) && (c != 47))
theorem num_bytes : ((List.range 256).all fun n => num_bytesT (UInt8.ofNat n)) = true := by kernel_rfl
def low_bytesT (c : UInt8) : Bool := (lowB (lowB c) == lowB c) && (wordB (lowB c) == wordB c) && (letB (lowB c) == letB c)
theorem low_bytes : ((List.range 256).all fun n => low_bytesT (UInt8.ofNat n)) = true := by kernel_rfl
theorem low_facts (c : UInt8) : lowB (lowB c) = lowB c ∧ wordB (lowB c) = wordB c ∧ letB (lowB c) = letB c := by
  have h0 := byte_all (f := low_bytesT) low_bytes c
  unfold low_bytesT at h0
  simp only [Bool.and_eq_true, beq_iff_eq] at h0
  exact ⟨h0.1.1, h0.1.2, h0.2⟩
def dl_bytesT (c : UInt8) : Bool := !(digB c) || !(letB c)
theorem dl_bytes : ((List.range 256).all fun n => dl_bytesT (UInt8.ofNat n)) = true := by kernel_rfl
theorem dig_let (c : UInt8) (h : digB c = true) : letB c = false := by
  have := byte_all (f := dl_bytesT) dl_bytes c
  unfold dl_bytesT at this
  rw [h] at this
  simpa using this
/-- words -/
theorem good_word (l : Tx) (c : UInt8) (r : Tx) (hl : l = c :: r) (hc : letB c = true) (ha : ∀ d ∈ l, wordB d = true) (hlow : ∀ d ∈ l, lowB d = d) : Good 1 (bb l) := by
  intro x a rest p hd hg
  have hsh : shownL (1, bb l, p) = l := rfl
  rw [hsh] at hd ⊢
  have hd2 := hd
  rw [hl, List.cons_append] at hd2
  obtain ⟨h1, h2, h3⟩ := head_lt x a c _ hd2
  have hw : wordB c = true := ha c (by rw [hl]; simp)
  have hb := byte_all (f := word_bytesT) word_bytes c
  unfold word_bytesT at hb
  rw [hw] at hb
  simp only [Bool.not_true, Bool.false_or, Bool.and_eq_true, bne_iff_ne] at hb
  refine ⟨solid_of x a c _ hd2 (not_five c (.inl hw)) (.inl hb.1) (.inl hb.2), ?_⟩
  unfold oneP
  simp only [h2]
  rw [if_pos hc, hd, row_gap wordB l rest ha (by decide) hg, ext_at x a l.length l rest hd rfl]
  have : smallA (bb l) = bb l := by
    unfold smallA
    have hm : l.map lowB = l := by
      conv => rhs; rw [← List.map_id l]
      exact List.map_congr_left fun d hd => hlow d hd
    show bb (l.map lowB) = bb l
    rw [hm]
  rw [this]
/-- numbers -/
theorem good_num (l : Tx) (c : UInt8) (r : Tx) (hl : l = c :: r) (hc : digB c = true) (ha : ∀ d ∈ l, numB d = true) : Good 4 (bb l) := by
  intro x a rest p hd hg
  have hsh : shownL (4, bb l, p) = l := rfl
  rw [hsh] at hd ⊢
  have hd2 := hd
  rw [hl, List.cons_append] at hd2
  obtain ⟨h1, h2, h3⟩ := head_lt x a c _ hd2
  have hw : numB c = true := ha c (by rw [hl]; simp)
  have hb := byte_all (f := num_bytesT) num_bytes c
  unfold num_bytesT at hb
  rw [hw] at hb
  simp only [Bool.not_true, Bool.false_or, Bool.and_eq_true, bne_iff_ne] at hb
  refine ⟨solid_of x a c _ hd2 (not_five c (.inr (.inl hw))) (.inl hb.1) (.inl hb.2), ?_⟩
  unfold oneP
  simp only [h2]
  rw [if_neg (by rw [dig_let c hc]; decide), if_pos hc, hd, row_gap numB l rest ha (by decide) hg, ext_at x a l.length l rest hd rfl]
/-- texts in quotes -/
theorem bet_dbl (q : UInt8) (l rest : Tx) (hr : ∀ r, rest ≠ q :: r) : betL q (dblL q l ++ q :: rest) = some (l, (dblL q l).length + 1) := by
  induction l with
  | nil =>
    show betL q (q :: rest) = _
    rw [betL_cons, if_pos rfl]
    cases rest with
    | nil => rfl
    | cons d r =>
      have : d ≠ q := fun h => hr r (by rw [h])
      simp only [this, if_false]; rfl
  | cons c r ih =>
    have e : dblL q (c :: r) = (if c = q then [q, q] else [c]) ++ dblL q r := by simp [dblL]
    rw [e]
    by_cases hc : c = q
    · subst hc
      rw [if_pos rfl]
      show betL c (c :: c :: (dblL c r ++ c :: rest)) = _
      rw [betL_cons, if_pos rfl]
      simp only [if_true]
      rw [ih]
      simp
    · rw [if_neg hc]
      show betL q (c :: (dblL q r ++ q :: rest)) = _
      rw [betL_cons, if_neg hc, ih]
      simp
theorem quo_gap (q : UInt8) (hq : q ≠ 32) (t : ByteArray) (x : ByteArray) (a : Nat) (rest : Tx) (hd : x.data.toList.drop a = quoL q t.data.toList ++ rest) (hg : Gap rest) : quoAt x a q = some (t.data.toList, a + (quoL q t.data.toList).length) := by
  have hd2 : x.data.toList.drop a = q :: (dblL q t.data.toList ++ q :: rest) := by rw [hd]; simp [quoL]
  obtain ⟨h1, h2, h3⟩ := head_lt x a q _ hd2
  unfold quoAt
  rw [h3, bet_dbl q _ rest]
  · simp [quoL]; omega
  · intro r hr
    rcases hg with rfl | ⟨r2, rfl⟩
    · cases hr
    · injection hr with h4; exact hq h4.symm
theorem good_str (t : ByteArray) : Good 3 t := by
  intro x a rest p hd hg
  have hsh : shownL (3, t, p) = quoL 39 t.data.toList := rfl
  rw [hsh] at hd ⊢
  have hd2 : x.data.toList.drop a = 39 :: (dblL 39 t.data.toList ++ 39 :: rest) := by rw [hd]; simp [quoL]
  obtain ⟨h1, h2, h3⟩ := head_lt x a 39 _ hd2
  refine ⟨solid_of x a 39 _ hd2 (by decide) (.inl (by decide)) (.inl (by decide)), ?_⟩
  unfold oneP
  simp only [h2]
  rw [if_neg (by decide), if_neg (by decide), if_neg (by decide), if_pos trivial, quo_gap 39 (by decide) t x a rest hd hg]
theorem good_quoted (t : ByteArray) : Good 2 t := by
  intro x a rest p hd hg
  have hsh : shownL (2, t, p) = quoL 34 t.data.toList := rfl
  rw [hsh] at hd ⊢
  have hd2 : x.data.toList.drop a = 34 :: (dblL 34 t.data.toList ++ 34 :: rest) := by rw [hd]; simp [quoL]
  obtain ⟨h1, h2, h3⟩ := head_lt x a 34 _ hd2
  refine ⟨solid_of x a 34 _ hd2 (by decide) (.inl (by decide)) (.inl (by decide)), ?_⟩
  unfold oneP
  simp only [h2]
  rw [if_neg (by decide), if_neg (by decide), if_pos trivial, quo_gap 34 (by decide) t x a rest hd hg]
/-- signs -/
def sign_bytesT (c : UInt8) : Bool := decide (signI c < 0) || (!(letB c) && !(digB c) && (c != 34) && (c != 39) && (c != 36))
theorem sign_bytes : ((List.range 256).all fun n => sign_bytesT (UInt8.ofNat n)) = true := by kernel_rfl
theorem gap_take (rest : Tx) (hg : Gap rest) (c : UInt8) (hc : c ≠ 32) : rest.take 1 ≠ [c] := by
  rcases hg with rfl | ⟨r, rfl⟩
  · simp
  · simp; exact fun h => hc h.symm
theorem good_sign (c : UInt8) (hc : 0 ≤ signI c) : Good 5 (bb [c]) := by
  intro x a rest p hd hg
  have hsh : shownL (5, bb [c], p) = [c] := rfl
  rw [hsh] at hd ⊢
  have hd2 : x.data.toList.drop a = c :: rest := hd
  obtain ⟨h1, h2, h3⟩ := head_lt x a c _ hd2
  refine ⟨solid_of x a c _ hd2 (not_five c (.inr (.inr (.inl hc)))) (.inr (gap_take rest hg 45 (by decide))) (.inr (gap_take rest hg 42 (by decide))), ?_⟩
  have hb := byte_all (f := sign_bytesT) sign_bytes c
  unfold sign_bytesT at hb
  have hn : ¬ signI c < 0 := by omega
  rw [decide_eq_false hn] at hb
  simp only [Bool.false_or, Bool.and_eq_true, Bool.not_eq_true', bne_iff_ne] at hb
  obtain ⟨⟨⟨⟨b1, b2⟩, b3⟩, b4⟩, b5⟩ := hb
  unfold oneP
  simp only [h2]
  rw [if_neg (by rw [b1]; decide), if_neg (by rw [b2]; decide), if_neg b3, if_neg b4, if_neg b5, if_neg hn, ext_at x a 1 [c] rest hd rfl]
  rfl
theorem good_param (l : Tx) (hne : l ≠ []) (ha : ∀ d ∈ l, digB d = true) : Good 5 (bb (36 :: l)) := by
  intro x a rest p hd hg
  have hsh : shownL (5, bb (36 :: l), p) = 36 :: l := rfl
  rw [hsh] at hd ⊢
  have hd2 : x.data.toList.drop a = 36 :: (l ++ rest) := hd
  obtain ⟨h1, h2, h3⟩ := head_lt x a 36 _ hd2
  refine ⟨solid_of x a 36 _ hd2 (by decide) (.inl (by decide)) (.inl (by decide)), ?_⟩
  obtain ⟨d, r, rfl⟩ : ∃ d r, l = d :: r := by
    cases l with
    | nil => exact absurd rfl hne
    | cons d r => exact ⟨d, r, rfl⟩
  have hdd := ha d (by simp)
  have htl : tagL (x.data.toList.drop (a + 1)) = 0 := by rw [h3, List.cons_append, tagL_cons, if_neg (by rw [dig_let d hdd]; decide)]
  have hta : tagAt x a = -1 := by
    unfold tagAt
    rw [htl, Nat.add_zero, h3, if_neg]
    rw [List.cons_append, List.take_succ_cons]
    intro hh
    injection hh with h4
    subst h4
    exact absurd hdd (by decide)
  have hrow : rowL digB (x.data.toList.drop (a + 1)) = (d :: r).length := by rw [h3]; exact row_gap digB (d :: r) rest ha (by decide) hg
  unfold oneP
  simp only [h2]
  rw [if_neg (by decide), if_neg (by decide), if_neg (by decide), if_neg (by decide), if_pos trivial, hta, if_neg (by decide), hrow, if_neg (by simp)]
  have e : a + 1 + (d :: r).length = a + (36 :: d :: r).length := by simp; omega
  rw [e, ext_at x a _ (36 :: d :: r) rest hd rfl]
end Go.Proofs.YtgnpkpboilnijaaGreatDoor
namespace Go.Proofs.YtgnpkpboilnijaaGreatDoor
open Go.ChangeShapes Go.WideShapes Go.ChangeAt Go.RowKit
set_option maxRecDepth 100000
set_option linter.unusedVariables false
set_option linter.unusedSimpArgs false

theorem take_row (s : ByteArray) (a : Nat) (p : UInt8 → Bool) (ha : a ≤ s.size) : s.extract a (a + rowL p (s.data.toList.drop a)) = bb ((s.data.toList.drop a).take (rowL p (s.data.toList.drop a))) := by
  have := ext_to s a (a + rowL p (s.data.toList.drop a)) (row_end s p a ha)
  rw [this]
  congr 2; omega
theorem one_good (s : ByteArray) (a : Nat) (hS : Solid s a) (he : (oneP s a).2.2 = 0) : Good (oneP s a).1.1 (oneP s a).1.2.1 := by
  have h := hS.lt
  have hh := head_at s a h
  unfold oneP at he ⊢
  simp only [hh] at he ⊢
  by_cases hl : letB s[a] = true
  · rw [if_pos hl] at he ⊢
    show Good 1 (smallA _)
    rw [take_row s a wordB (by omega)]
    have e : smallA (bb ((s.data.toList.drop a).take (rowL wordB (s.data.toList.drop a)))) = bb (((s.data.toList.drop a).take (rowL wordB (s.data.toList.drop a))).map lowB) := rfl
    rw [e]
    have hn := row_pos wordB s a h (let_word _ hl)
    refine good_word _ (lowB s[a]) (((s.data.toList.drop (a + 1)).take (rowL wordB (s.data.toList.drop (a + 1)))).map lowB) ?_ (by rw [(low_facts _).2.2]; exact hl) ?_ ?_
    · rw [hn, byte_at s a h, List.take_succ_cons, List.map_cons]
    · intro d hd
      obtain ⟨c, hc, rfl⟩ := List.mem_map.1 hd
      rw [(low_facts c).2.1]
      exact row_take wordB _ c hc
    · intro d hd
      obtain ⟨c, hc, rfl⟩ := List.mem_map.1 hd
      exact (low_facts c).1
  · rw [if_neg hl] at he ⊢
    by_cases hd : digB s[a] = true
    · rw [if_pos hd] at he ⊢
      show Good 4 _
      rw [take_row s a numB (by omega)]
      have hn := row_pos numB s a h (dig_num _ hd)
      refine good_num _ s[a] ((s.data.toList.drop (a + 1)).take (rowL numB (s.data.toList.drop (a + 1)))) ?_ hd ?_
      · rw [hn, byte_at s a h, List.take_succ_cons]
      · intro d hd
        exact row_take numB _ d hd
    · rw [if_neg hd] at he ⊢
      by_cases h34 : s[a] = 34
      · rw [if_pos h34] at he ⊢
        cases hq : quoAt s a 34 with
        | none => rw [hq] at he; exact absurd (show (6 : Int) = 0 from he) (by decide)
        | some p => exact good_quoted _
      · rw [if_neg h34] at he ⊢
        by_cases h39 : s[a] = 39
        · rw [if_pos h39] at he ⊢
          cases hq : quoAt s a 39 with
          | none => rw [hq] at he; exact absurd (show (6 : Int) = 0 from he) (by decide)
          | some p => exact good_str _
        · rw [if_neg h39] at he ⊢
          by_cases h36 : s[a] = 36
          · rw [if_pos h36] at he ⊢
            by_cases ht : 0 < tagAt s a
            · rw [if_pos ht] at he ⊢
              cases hq : dolAt s a (tagAt s a).toNat with
              | none => rw [hq] at he; exact absurd (show (6 : Int) = 0 from he) (by decide)
              | some p => exact good_str _
            · rw [if_neg ht] at he ⊢
              by_cases hp : rowL digB (s.data.toList.drop (a + 1)) = 0
              · rw [if_pos hp] at he; exact absurd he (by decide)
              · rw [if_neg hp] at he ⊢
                show Good 5 _
                have e : s.extract a (a + 1 + rowL digB (s.data.toList.drop (a + 1))) = bb (36 :: (s.data.toList.drop (a + 1)).take (rowL digB (s.data.toList.drop (a + 1)))) := by
                  rw [ext_to s a _ (row_end s digB (a + 1) (by omega)), show a + 1 + rowL digB (s.data.toList.drop (a + 1)) - a = rowL digB (s.data.toList.drop (a + 1)) + 1 by omega]
                  congr 1
                  have hb := byte_at s a h
                  rw [h36] at hb
                  rw [hb, List.take_succ_cons]
                rw [e]
                refine good_param _ ?_ fun d hd => row_take digB _ d hd
                intro hz
                have := congrArg List.length hz
                rw [List.length_take, List.length_nil] at this
                have h2 := rowL_le digB (s.data.toList.drop (a + 1))
                omega
          · rw [if_neg h36] at he ⊢
            by_cases hg : signI s[a] < 0
            · rw [if_pos hg] at he; exact absurd he (by decide)
            · rw [if_neg hg]
              show Good 5 _
              rw [ext_one s a h]
              exact good_sign s[a] (by omega)
theorem one_place (s : ByteArray) (a : Nat) (he : (oneP s a).2.2 = 0) : (oneP s a).1.2.2 = (a : Int) := by
  unfold oneP at he ⊢
  simp only at he ⊢
  split at he <;> rename_i h1
  · rw [if_pos h1]
  · rw [if_neg h1]
    split at he <;> rename_i h2
    · rw [if_pos h2]
    · rw [if_neg h2]
      split at he <;> rename_i h3
      · rw [if_pos h3]
        cases hq : quoAt s a 34 with
        | none => rw [hq] at he; exact absurd (show (6 : Int) = 0 from he) (by decide)
        | some p => rfl
      · rw [if_neg h3]
        split at he <;> rename_i h4
        · rw [if_pos h4]
          cases hq : quoAt s a 39 with
          | none => rw [hq] at he; exact absurd (show (6 : Int) = 0 from he) (by decide)
          | some p => rfl
        · rw [if_neg h4]
          split at he <;> rename_i h5
          · rw [if_pos h5]
            split at he <;> rename_i h6
            · rw [if_pos h6]
              cases hq : dolAt s a (tagAt s a).toNat with
              | none => rw [hq] at he; exact absurd (show (6 : Int) = 0 from he) (by decide)
              | some p => rfl
            · rw [if_neg h6]
              split at he <;> rename_i h7
              · exact absurd he (by decide)
              · rw [if_neg h7]
          · rw [if_neg h5]
            split at he <;> rename_i h6
            · exact absurd he (by decide)
            · rw [if_neg h6]
theorem scan_all_good (s : ByteArray) (a : Nat) (acc : List Tok) (ha : a ≤ s.size) (h : ∀ t ∈ acc, Good t.1 t.2.1) : ∀ t ∈ (scanF s a acc).1, Good t.1 t.2.1 :=
  scan_ind s (fun a acc r => (∀ t ∈ acc, Good t.1 t.2.1) → ∀ t ∈ r.1, Good t.1 t.2.1) (fun a acc h h2 => h2) (fun a b acc r h1 h2 h3 => h3) (fun a acc e h1 h2 h3 t ht => by cases ht)
    (fun a acc r hS he h1 h2 h3 h4 => h3 fun t ht => by
      rcases List.mem_append.1 ht with ht | ht
      · exact h4 t ht
      · simp at ht; subst ht; exact one_good s a hS he) a acc ha h
/-- places rise -/
def Rise (l : List Tok) : Prop := ∀ (i : Nat) (x y : Tok), l[i]? = some x → l[i + 1]? = some y → x.2.2 < y.2.2
theorem rise_snoc (l : List Tok) (t : Tok) (h : Rise l) (ht : ∀ x ∈ l, x.2.2 < t.2.2) : Rise (l ++ [t]) := by
  intro i x y hx hy
  have hlt := (List.getElem?_eq_some_iff.1 hy).1
  rw [List.length_append, List.length_singleton] at hlt
  by_cases hi : i + 1 < l.length
  · rw [List.getElem?_append_left (by omega)] at hx
    rw [List.getElem?_append_left hi] at hy
    exact h i x y hx hy
  · rw [List.getElem?_append_left (by omega)] at hx
    rw [List.getElem?_append_right (by omega)] at hy
    have : i + 1 - l.length = 0 := by omega
    rw [this] at hy
    simp at hy; subst hy
    exact ht x (List.mem_of_getElem? hx)
theorem scan_rise (s : ByteArray) (a : Nat) (acc : List Tok) (ha : a ≤ s.size) (h : (∀ t ∈ acc, t.2.2 < (a : Int)) ∧ Rise acc) : Rise (scanF s a acc).1 :=
  scan_ind s (fun a acc r => ((∀ t ∈ acc, t.2.2 < (a : Int)) ∧ Rise acc) → Rise r.1) (fun a acc h h2 => h2.2) (fun a b acc r h1 h2 h3 h4 => h3 ⟨fun t ht => by have := h4.1 t ht; omega, h4.2⟩) (fun a acc e h1 h2 h3 i x y hx => by cases hx)
    (fun a acc r hS he h1 h2 h3 h4 => h3 (by
      have hp := one_place s a he
      refine ⟨fun t ht => ?_, rise_snoc acc _ h4.2 fun x hx => by rw [hp]; exact h4.1 x hx⟩
      rcases List.mem_append.1 ht with ht | ht
      · have := h4.1 t ht; omega
      · simp at ht; subst ht; rw [hp]; omega)) a acc ha h
/-- a text that is wrong has no tokens; the fault stands in the text -/
theorem scan_wrong (s : ByteArray) (a : Nat) (acc : List Tok) (ha : a ≤ s.size) : (scanF s a acc).2.1 ≠ 0 → (scanF s a acc).1 = [] ∧ 0 ≤ (scanF s a acc).2.2 ∧ (scanF s a acc).2.2 ≤ (s.size : Int) :=
  scan_ind s (fun a acc r => r.2.1 ≠ 0 → r.1 = [] ∧ 0 ≤ r.2.2 ∧ r.2.2 ≤ (s.size : Int)) (fun a acc h h2 => absurd rfl h2) (fun a b acc r h1 h2 h3 => h3) (fun a acc e h1 h2 h3 => ⟨rfl, by simp only; omega, by simp only; omega⟩)
    (fun a acc r hS he h1 h2 h3 => h3) a acc ha
/-- what is told of a right text has no place -/
theorem scan_right (s : ByteArray) (a : Nat) (acc : List Tok) (ha : a ≤ s.size) : (scanF s a acc).2.1 = 0 → (scanF s a acc).2.2 = 0 :=
  scan_ind s (fun a acc r => r.2.1 = 0 → r.2.2 = 0) (fun a acc h h2 => rfl) (fun a b acc r h1 h2 h3 => h3) (fun a acc e h1 h2 h3 => absurd h3 h2) (fun a acc r hS he h1 h2 h3 => h3) a acc ha
theorem scan_good (x : ByteArray) (a : Nat) (acc : List Tok) (k : Int) (t : ByteArray) (b : Nat) (hS : Solid x a) (e : oneP x a = ((k, t, (a : Int)), b, 0)) : scanF x a acc = scanF x b (acc ++ [(k, t, (a : Int))]) := by
  have h := (scan_one x a acc hS).1
  rw [e] at h
  exact h
theorem drop_app (x : ByteArray) (a : Nat) (l rest : Tx) (h : x.data.toList.drop a = l ++ rest) : x.data.toList.drop (a + l.length) = rest := by
  rw [← List.drop_drop, h, List.drop_left]
theorem tail_gap (l : List Tok) : Gap (tailL l) := by
  cases l with
  | nil => exact .inl rfl
  | cons t r => exact .inr ⟨shownL t ++ tailL r, by simp [tailL]⟩
theorem alike_cons (x y : Tok) (l m : List Tok) (h1 : x.1 = y.1) (h2 : x.2.1 = y.2.1) (h : Alike false l m) : Alike false (x :: l) (y :: m) := by
  refine ⟨by simp [h.1], fun i a b ha hb => ?_⟩
  cases i with
  | zero => simp at ha hb; subst ha hb; exact ⟨h1, h2, fun h => by cases h⟩
  | succ i => exact h.2 i a b (by simpa using ha) (by simpa using hb)
theorem back_tail : ∀ (l : List Tok), (∀ t ∈ l, Good t.1 t.2.1) → ∀ (x : ByteArray) (a : Nat) (acc : List Tok), x.data.toList.drop a = tailL l → ∃ m, scanF x a acc = (acc ++ m, 0, 0) ∧ Alike false l m := by
  intro l
  induction l with
  | nil =>
    intro _ x a acc hd
    have : x.size ≤ a := by
      have h1 := congrArg List.length hd
      rw [List.length_drop] at h1
      have e : x.size = x.data.toList.length := rfl
      simp [tailL] at h1; omega
    exact ⟨[], by rw [scanF_end x a acc this, List.append_nil], Alike.refl _ _⟩
  | cons t r ih =>
    intro hg x a acc hd
    have hd2 : x.data.toList.drop a = 32 :: (shownL t ++ tailL r) := by rw [hd]; simp [tailL]
    obtain ⟨h1, h2, h3⟩ := head_lt x a 32 _ hd2
    obtain ⟨hS, ho⟩ := hg t (by simp) x (a + 1) (tailL r) t.2.2 h3 (tail_gap r)
    obtain ⟨m, hm, ha⟩ := ih (fun u hu => hg u (by simp [hu])) x (a + 1 + (shownL t).length) (acc ++ [(t.1, t.2.1, ((a + 1 : Nat) : Int))]) (drop_app x (a + 1) _ _ h3)
    refine ⟨(t.1, t.2.1, ((a + 1 : Nat) : Int)) :: m, ?_, alike_cons _ _ _ _ rfl rfl ha⟩
    rw [scan_blank x a acc h1 (by rw [h2]; decide), scan_good x (a + 1) acc t.1 t.2.1 _ hS ho]
    rw [show (t.1, t.2.1, t.2.2) = t from rfl, hm, List.append_assoc]; rfl
theorem back (l : List Tok) (hg : ∀ t ∈ l, Good t.1 t.2.1) : ∃ m, scanF (bb (showL l)) 0 [] = (m, 0, 0) ∧ Alike false l m := by
  cases l with
  | nil => exact ⟨[], by rw [scanF_end _ _ _ (by show (showL []).toArray.size ≤ 0; exact Nat.le_refl _)], Alike.refl _ _⟩
  | cons t r =>
    have hd : (bb (showL (t :: r))).data.toList.drop 0 = shownL t ++ tailL r := by simp [showL]
    obtain ⟨hS, ho⟩ := hg t (by simp) (bb (showL (t :: r))) 0 (tailL r) t.2.2 hd (tail_gap r)
    obtain ⟨m, hm, ha⟩ := back_tail r (fun u hu => hg u (by simp [hu])) (bb (showL (t :: r))) (0 + (shownL t).length) [(t.1, t.2.1, ((0 : Nat) : Int))] (drop_app _ 0 _ _ hd)
    refine ⟨(t.1, t.2.1, ((0 : Nat) : Int)) :: m, ?_, alike_cons _ _ _ _ rfl rfl ha⟩
    rw [scan_good _ 0 [] t.1 t.2.1 _ hS ho]
    rw [show (t.1, t.2.1, t.2.2) = t from rfl]
    exact hm
end Go.Proofs.YtgnpkpboilnijaaGreatDoor
namespace Go.Proofs.YtgnpkpboilnijaaGreatDoor
open Go.ChangeShapes Go.WideShapes Go.ChangeAt Go.RowKit
set_option maxRecDepth 100000
set_option linter.unusedVariables false
set_option linter.unusedSimpArgs false

/-- without noughts at the beginning, but one ahead of a point, or the last one -/
def frontL : Tx → Tx
  | c :: d :: r => if c = 48 ∧ d ≠ 46 then frontL (d :: r) else c :: d :: r
  | l => l
/-- how many noughts frontL leaves out -/
def frontN : Tx → Nat
  | c :: d :: r => if c = 48 ∧ d ≠ 46 then frontN (d :: r) + 1 else 0
  | _ => 0
theorem front_drop : ∀ l : Tx, frontL l = l.drop (frontN l) := by
  intro l
  induction l with
  | nil => rfl
  | cons c r ih =>
    cases r with
    | nil => rfl
    | cons d r =>
      rw [frontL, frontN]
      split
      · rw [ih]; rfl
      · rfl
theorem frontN_lt : ∀ l : Tx, frontN l ≤ l.length - 1 := by
  intro l
  induction l with
  | nil => exact Nat.le_refl _
  | cons c r ih =>
    cases r with
    | nil => exact Nat.zero_le _
    | cons d r =>
      rw [frontN]
      split
      · simp only [List.length_cons] at ih ⊢; omega
      · exact Nat.zero_le _
/-- how long a text is without its noughts at the end -/
def backN (l : Tx) : Nat → Nat
  | 0 => 0
  | n + 1 => if l[n]? = some 48 then backN l n else n + 1
/-- .. and without a point there -/
def pointN (l : Tx) (n : Nat) : Nat := if 0 < n ∧ l[n - 1]? = some 46 then n - 1 else n
theorem backN_le (l : Tx) : ∀ n, backN l n ≤ n := by
  intro n
  induction n with
  | zero => exact Nat.le_refl _
  | succ n ih => rw [backN]; split <;> omega
/-- a number's text -/
def numL (l : Tx) : Tx := if l.count 46 = 1 then (frontL l).take (pointN (frontL l) (backN (frontL l) (frontL l).length)) else frontL l
/-- tokens without Signs ; at their end: how many -/
def unN (l : List Tok) : Nat → Nat
  | 0 => 0
  | n + 1 => if (match l[n]? with | some t => isSemi t | none => false) = true then unN l n else n + 1
def normT (t : Tok) : Tok := if t.1 = 4 then (4, bb (numL t.2.1.data.toList), t.2.2) else t
def tokensL (l : List Tok) : List Tok := (l.take (unN l l.length)).map normT
def formA (s : ByteArray) : Tx × Int := if (scanA s).2.1 = 0 then (showL (tokensL (scanA s).1), 0) else ([], (scanA s).2.1)
/-- a parameter's number: 0 where it has none; nothing: the token is none -/
def valL (l : Tx) : Nat := l.foldl (fun n c => 10 * n + (c.toNat - 48)) 0
def parT (t : Tok) : Option Nat := if t.1 = 5 ∧ 2 ≤ t.2.1.size ∧ t.2.1.data.toList.headD 0 = 36 ∧ (t.2.1.data.toList.drop 1).all digB = true then some (if 9 < t.2.1.size - 1 then 0 else valL (t.2.1.data.toList.drop 1)) else none
def bindsL (l : List Tok) : Nat := l.foldl (fun n t => max n ((parT t).getD 0)) 0
/-- tokens with their parameters' values -/
def fillL : List Tok → List ByteArray → List Bool → Option (List Tok)
  | [], _, _ => some []
  | t :: r, args, null => match parT t with
    | none => (fillL r args null).map (t :: ·)
    | some n => if n = 0 ∨ args.length < n then none else (fillL r args null).map ((if null.getD (n - 1) false = true then (1, ⟨#[110, 117, 108, 108]⟩, t.2.2) else (3, args.getD (n - 1) ⟨#[]⟩, t.2.2)) :: ·)
end Go.Proofs.YtgnpkpboilnijaaGreatDoor
namespace Go.Proofs.YtgnpkpboilnijaaGreatDoor
open Go.ChangeShapes Go.WideShapes Go.ChangeAt Go.RowKit
set_option maxRecDepth 100000
set_option linter.unusedVariables false
set_option linter.unusedSimpArgs false

/-- the three variables that number's closures share: F and T hold the ends, S the text -/
structure NmI (w0 : World) (s : ByteArray) (F T S : Nat) (fr b : Nat) (wr : World) : Prop where
  bel : Below w0.heap.size w0 wr
  cF : wr.cell? ⟨F, 0, none⟩ = some (.int .i64 (fr : Int))
  cT : wr.cell? ⟨T, 0, none⟩ = some (.int .i64 (b : Int))
  cS : wr.cell? ⟨S, 0, none⟩ = some (.string s)
  fF : wr.frozen? ⟨F, 0, none⟩ = false
  fT : wr.frozen? ⟨T, 0, none⟩ = false
structure Apart3 (w0 : World) (F T S : Nat) : Prop where
  ft : F ≠ T
  fs : F ≠ S
  ts : T ≠ S
  f0 : w0.heap.size ≤ F
  t0 : w0.heap.size ≤ T
theorem NmI.setF {w0 wr : World} {s : ByteArray} {F T S fr b : Nat} (h : NmI w0 s F T S fr b wr) (d : Apart3 w0 F T S) (n : Nat) : NmI w0 s F T S n b (wr.setCell ⟨F, 0, none⟩ (.int .i64 (n : Int))) :=
  ⟨h.bel.setCell d.f0 _, World.cell?_setCell_same _ _ _ h.cF, by rw [World.cell?_setCell_other _ _ _ _ (by intro h2; simp only [Addr.mk.injEq] at h2; exact d.ft h2.1)]; exact h.cT,
    by rw [World.cell?_setCell_other _ _ _ _ (by intro h2; simp only [Addr.mk.injEq] at h2; exact d.fs h2.1)]; exact h.cS, by rw [World.frozen?_setCell]; exact h.fF, by rw [World.frozen?_setCell]; exact h.fT⟩
theorem NmI.setT {w0 wr : World} {s : ByteArray} {F T S fr b : Nat} (h : NmI w0 s F T S fr b wr) (d : Apart3 w0 F T S) (n : Nat) : NmI w0 s F T S fr n (wr.setCell ⟨T, 0, none⟩ (.int .i64 (n : Int))) :=
  ⟨h.bel.setCell d.t0 _, by rw [World.cell?_setCell_other _ _ _ _ (by intro h2; simp only [Addr.mk.injEq] at h2; exact d.ft h2.1.symm)]; exact h.cF, World.cell?_setCell_same _ _ _ h.cT,
    by rw [World.cell?_setCell_other _ _ _ _ (by intro h2; simp only [Addr.mk.injEq] at h2; exact d.ts h2.1)]; exact h.cS, by rw [World.frozen?_setCell]; exact h.fF, by rw [World.frozen?_setCell]; exact h.fT⟩
theorem frontN_step (s : ByteArray) (i : Nat) : frontN (s.data.toList.drop i) = if h : i + 1 < s.size then (if s[i] = 48 ∧ s[i + 1] ≠ 46 then frontN (s.data.toList.drop (i + 1)) + 1 else 0) else 0 := by
  by_cases h : i + 1 < s.size
  · rw [dif_pos h, byte_at s i (by omega), byte_at s (i + 1) h, frontN]
  · rw [dif_neg h]
    by_cases h2 : i < s.size
    · rw [byte_at s i h2, drop_nil s (i + 1) h]; rfl
    · rw [drop_nil s i h2]; rfl
set_option maxHeartbeats 2000000 in
theorem front_any (s : ByteArray) (w0 : World) (F T S : Nat) (d : Apart3 w0 F T S) (w : World) (hs : s.size ≤ 1048576) (h : NmI w0 s F T S 0 s.size w) :
    Calls Tryz.prog 32 #[.pointer (some ⟨F, 0, none⟩), .pointer (some ⟨T, 0, none⟩), .pointer (some ⟨S, 0, none⟩)] w fun e w' => e = .returned (.tuple #[]) ∧ NmI w0 s F T S (frontN s.data.toList) s.size w' := by
  obtain ⟨R, hR⟩ : ∃ R, frontN s.data.toList = R := ⟨_, rfl⟩
  rw [hR]
  have HR := Lib.hid hR
  have HI := Lib.hid h
  have HD := Lib.hid d
  clear hR h d
  go_enter Tryz.func32, Tryz.ntmps32
  go_wp2
  go_loopg [] s.size (fun g wx => ∃ i : Nat, i ≤ s.size ∧ s.size - i ≤ g ∧ NmI w0 s F T S i s.size wx ∧ R = i + frontN (s.data.toList.drop i))
  case atStart => exact ⟨0, Nat.zero_le _, by omega, HI.out, by rw [List.drop_zero, HR.out, Nat.zero_add]⟩
  case round =>
    obtain ⟨i, hi, hg, hJ, hv⟩ := hrel
    have HJ := Lib.hid hJ
    have cF := hJ.cF
    have cT := hJ.cT
    have cS := hJ.cS
    have fF := hJ.fF
    obtain ⟨i1, hi1⟩ : ∃ i1, i + 1 = i1 := ⟨_, rfl⟩
    have cw : IntKind.i64.wrap ((i : Int) + 1) = (i1 : Int) := by rw [show (i : Int) + 1 = (i1 : Int) by omega]; exact IntWalk.i64_in _ (by omega)
    rw [frontN_step] at hv
    have HX := Lib.hid ((hJ.setF HD.out i1))
    clear HI HR hJ
    by_cases hlt : i + 1 < s.size
    · rw [dif_pos hlt] at hv
      have l0 : (0 : Int) ≤ (i : Int) := by omega
      have l1 : (i : Int) < (s.size : Int) := by omega
      have m0 : (0 : Int) ≤ (i1 : Int) := by omega
      have m1 : (i1 : Int) < (s.size : Int) := by omega
      have hi1s : i1 < s.size := by rw [← hi1]; exact hlt
      have his : i < s.size := Nat.lt_of_succ_lt hlt
      obtain ⟨z, hz⟩ : ∃ z : Int, ((s[i]'his).toNat : Int) = z := ⟨_, rfl⟩
      obtain ⟨y, hy⟩ : ∃ y : Int, ((s[i1]'hi1s).toNat : Int) = y := ⟨_, rfl⟩
      have hv2 : R = if z = 48 ∧ y ≠ 46 then i1 + frontN (s.data.toList.drop i1) else i := by
        subst hi1
        have e1 : (s[i]'his = 48) ↔ z = 48 := by
          rw [← hz]
          exact ⟨fun h => by rw [h]; rfl, fun h => UInt8.toNat_inj.1 (by show _ = 48; omega)⟩
        have e2 : (s[i + 1]'hlt = 46) ↔ y = 46 := by
          rw [← hy]
          exact ⟨fun h => by rw [h]; rfl, fun h => UInt8.toNat_inj.1 (by show _ = 46; omega)⟩
        rw [hv]
        by_cases c : z = 48 ∧ y ≠ 46
        · rw [if_pos ⟨e1.2 c.1, fun h => c.2 (e2.1 h)⟩, if_pos c]; omega
        · rw [if_neg (fun h => c ⟨e1.1 h.1, fun h2 => h.2 (e2.2 h2)⟩), if_neg c]; omega
      have HV := Lib.hid hv2
      have HI1 := Lib.hid hi1
      clear hv hv2 hi1
      obtain ⟨g, rfl⟩ : ∃ g, gk = g + 1 := ⟨gk - 1, by omega⟩
      by_cases z48 : z = 48
      · subst z48
        by_cases y46 : y = 46
        · subst y46
          have hv3 : R = i := by rw [HV.out, if_neg (by simp)]
          have HV3 := Lib.hid hv3
          clear hv3 HV
          go_wp2
          go_end0
          exact ⟨rfl, by rw [HV3.out]; exact HJ.out⟩
        · have e46 : (y != (46 : Int)) = true := by rw [bne_iff_ne]; exact y46
          have hv3 : R = i1 + frontN (s.data.toList.drop i1) := by rw [HV.out, if_pos ⟨rfl, y46⟩]
          have HV3 := Lib.hid hv3
          clear hv3 HV y46
          go_wp2
          go_roundg g
          case measure => exact Nat.lt_succ_self _
          case rel => exact ⟨i1, by omega, by have := HI1.out; omega, HX.out, HV3.out⟩
      · have e48 : (z == (48 : Int)) = false := by rw [beq_eq_false_iff_ne]; exact z48
        have hv3 : R = i := by rw [HV.out, if_neg (fun h => z48 h.1)]
        have HV3 := Lib.hid hv3
        clear hv3 HV z48
        go_wp2
        go_end0
        exact ⟨rfl, by rw [HV3.out]; exact HJ.out⟩
    · rw [dif_neg hlt] at hv
      have l1 : ¬ ((i1 : Int) < (s.size : Int)) := by omega
      have HV3 := Lib.hid (show R = i by omega)
      clear hv hi1
      go_wp2
      go_end0
      exact ⟨rfl, by rw [HV3.out]; exact HJ.out⟩
end Go.Proofs.YtgnpkpboilnijaaGreatDoor
namespace Go.Proofs.YtgnpkpboilnijaaGreatDoor
open Go.ChangeShapes Go.WideShapes Go.ChangeAt Go.RowKit
set_option maxRecDepth 100000
set_option linter.unusedVariables false
set_option linter.unusedSimpArgs false

theorem drop_get (s : ByteArray) (A n : Nat) (h : A + n < s.size) : (s.data.toList.drop A)[n]? = some (s[A + n]'h) := by
  rw [List.getElem?_drop, List.getElem?_eq_getElem (by exact h)]; rfl
set_option maxHeartbeats 2000000 in
theorem back_any (s : ByteArray) (w0 : World) (F T S A : Nat) (d : Apart3 w0 F T S) (w : World) (hs : s.size ≤ 1048576) (hA : A ≤ s.size) (h : NmI w0 s F T S A s.size w) :
    Calls Tryz.prog 33 #[.pointer (some ⟨F, 0, none⟩), .pointer (some ⟨T, 0, none⟩), .pointer (some ⟨S, 0, none⟩)] w fun e w' => e = .returned (.tuple #[]) ∧ NmI w0 s F T S A (A + pointN (s.data.toList.drop A) (backN (s.data.toList.drop A) (s.size - A))) w' := by
  obtain ⟨R, hR⟩ : ∃ R, backN (s.data.toList.drop A) (s.size - A) = R := ⟨_, rfl⟩
  rw [hR]
  have HR := Lib.hid hR
  have HI := Lib.hid h
  have HD := Lib.hid d
  clear hR h d
  go_enter Tryz.func33, Tryz.ntmps33
  go_wp2
  go_loopg [] (s.size - A) (fun g wx => ∃ n : Nat, A + n ≤ s.size ∧ n ≤ g ∧ NmI w0 s F T S A (A + n) wx ∧ R = backN (s.data.toList.drop A) n)
  case atStart => exact ⟨s.size - A, by omega, Nat.le_refl _, by rw [show A + (s.size - A) = s.size by omega]; exact HI.out, HR.out.symm⟩
  case round =>
    obtain ⟨n, hn, hg, hJ, hv⟩ := hrel
    obtain ⟨b, hb⟩ : ∃ b, A + n = b := ⟨_, rfl⟩
    rw [hb] at hJ hn
    have HJ := Lib.hid hJ
    have cF := hJ.cF
    have cT := hJ.cT
    have cS := hJ.cS
    have fT := hJ.fT
    have HB := Lib.hid hb
    clear HI HR hJ
    cases n with
    | zero =>
      have hab : b = A := by rw [← hb, Nat.add_zero]
      have hr0 : R = 0 := hv
      have l1 : ¬ ((A : Int) < (b : Int)) := by omega
      have HV := Lib.hid hr0
      have HAB := Lib.hid hab
      clear hv hr0 hb hab
      go_wp2
      go_end0
      refine ⟨rfl, ?_⟩
      have e : A + pointN (s.data.toList.drop A) R = b := by rw [HV.out, HAB.out]; unfold pointN; rw [if_neg (by omega)]; rfl
      rw [e]; exact HJ.out
    | succ n =>
      obtain ⟨c, hc⟩ : ∃ c, A + n = c := ⟨_, rfl⟩
      have hcb : c < s.size := by omega
      have l1 : (A : Int) < (b : Int) := by omega
      have c0 : (0 : Int) ≤ (c : Int) := by omega
      have c1 : (c : Int) < (s.size : Int) := by omega
      have cw : IntKind.i64.wrap ((b : Int) - 1) = (c : Int) := by rw [show (b : Int) - 1 = (c : Int) by omega]; exact IntWalk.i64_in _ (by omega)
      obtain ⟨z, hz⟩ : ∃ z : Int, ((s[c]'hcb).toNat : Int) = z := ⟨_, rfl⟩
      have hget : (s.data.toList.drop A)[n]? = some (s[c]'hcb) := by subst hc; exact drop_get s A n hcb
      rw [backN, hget] at hv
      have e48 : (some (s[c]'hcb) = some 48) ↔ z = 48 := by
        rw [← hz]
        exact ⟨fun h => by rw [Option.some.inj h]; rfl, fun h => congrArg some (UInt8.toNat_inj.1 (by show _ = 48; omega))⟩
      have e46 : (some (s[c]'hcb) = some 46) ↔ z = 46 := by
        rw [← hz]
        exact ⟨fun h => by rw [Option.some.inj h]; rfl, fun h => congrArg some (UInt8.toNat_inj.1 (by show _ = 46; omega))⟩
      have HX := Lib.hid (HJ.out.setT HD.out c)
      obtain ⟨g, rfl⟩ : ∃ g, gk = g + 1 := ⟨gk - 1, by omega⟩
      by_cases h48 : z = 48
      · rw [if_pos (e48.2 h48)] at hv
        subst h48
        have HV := Lib.hid hv
        have HC := Lib.hid hc
        have HG := Lib.hid (show n ≤ g by omega)
        clear hv hc hget e48 e46 hb hg
        go_wp2
        go_roundg g
        case measure => exact Nat.lt_succ_self _
        case rel => exact ⟨n, by have := HC.out; omega, HG.out, by rw [HC.out]; exact HX.out, HV.out⟩
      · rw [if_neg (fun h => h48 (e48.1 h))] at hv
        have n48 : (z == (48 : Int)) = false := by rw [beq_eq_false_iff_ne]; exact h48
        by_cases h46 : z = 46
        · have hp : A + pointN (s.data.toList.drop A) R = c := by
            rw [hv]; unfold pointN
            rw [if_pos ⟨by omega, by rw [show n + 1 - 1 = n from rfl, hget]; exact e46.2 h46⟩]; exact hc
          subst h46
          have HP := Lib.hid hp
          clear hv hc hget e48 e46 hb hg hp h48
          go_wp2
          go_end0
          exact ⟨rfl, by rw [HP.out]; exact HX.out⟩
        · have n46 : (z == (46 : Int)) = false := by rw [beq_eq_false_iff_ne]; exact h46
          have hp : A + pointN (s.data.toList.drop A) R = b := by
            rw [hv]; unfold pointN
            rw [if_neg (fun h => h46 (e46.1 (by rw [← hget]; exact h.2)))]; exact hb
          have HP := Lib.hid hp
          clear hv hc hget e48 e46 hb hg hp h48 h46
          go_wp2
          go_end0
          exact ⟨rfl, by rw [HP.out]; exact HJ.out⟩
end Go.Proofs.YtgnpkpboilnijaaGreatDoor
