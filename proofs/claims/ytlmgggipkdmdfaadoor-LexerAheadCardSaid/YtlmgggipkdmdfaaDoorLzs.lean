/- A token that is shown, with a blank or nothing behind it, is scanned as itself. Condition: none. -/
import Derived.Test.YtlmgggipkdmdfaaDoorLzr
namespace Go.Proofs.YtlmgggipkdmdfaaDoor
open Go.ChangeShapes Go.WideShapes Go.ChangeAt Go.RowKit
set_option linter.unusedVariables false
set_option linter.unusedSimpArgs false

/-- nothing, or a blank -/
def Gap (l : Tx) : Prop := l = [] ∨ ∃ r, l = 32 :: r
/-- a token whose text is scanned as it -/
def Good (k : Int) (t : ByteArray) : Prop := ∀ (x : ByteArray) (a : Nat) (rest : Tx) (p : Int), x.data.toList.drop a = shownL (k, t, p) ++ rest → Gap rest → Solid x a ∧ oneP x a = ((k, t, (a : Int)), a + (shownL (k, t, p)).length, 0)
theorem row_gap (p : UInt8 → Bool) (l rest : Tx) (hp : ∀ c ∈ l, p c = true) (h32 : p 32 = false) (hg : Gap rest) : rowL p (l ++ rest) = l.length := by
  rcases hg with rfl | ⟨r, rfl⟩
  · rw [List.append_nil]; exact row_full p l hp
  · exact row_app p l 32 r hp h32
theorem head_lt (x : ByteArray) (a : Nat) (c : UInt8) (r : Tx) (h : x.data.toList.drop a = c :: r) : a < x.size ∧ (x.data.toList.drop a).headD 0 = c ∧ x.data.toList.drop (a + 1) = r := by
  have h1 := congrArg List.length h
  rw [List.length_drop, List.length_cons] at h1
  refine ⟨by have e : x.size = x.data.toList.length := rfl
             omega, by rw [h]; rfl, ?_⟩
  rw [← List.drop_drop, h]; rfl
theorem ext_at (x : ByteArray) (a n : Nat) (l rest : Tx) (h : x.data.toList.drop a = l ++ rest) (hn : n = l.length) : x.extract a (a + n) = bb l := by
  apply ByteArray.ext
  apply Array.ext'
  rw [ByteArray.data_extract, Array.toList_extract, List.extract_eq_take_drop, h, show a + n - a = n by omega, hn]
  simp
def five_bytesT (c : UInt8) : Bool := !(fiveQ c) || (!(wordB c) && !(numB c) && decide (signI c < 0) && (c != 34) && (c != 39) && (c != 36) && (c != 45) && (c != 47))
theorem five_bytes : ((List.range 256).all fun n => five_bytesT (UInt8.ofNat n)) = true := by kernel_rfl
theorem byte_all {f : UInt8 → Bool} (h : ((List.range 256).all fun n => f (UInt8.ofNat n)) = true) (c : UInt8) : f c = true := by
  have := List.all_eq_true.1 h c.toNat (List.mem_range.2 c.toNat_lt)
  simpa using this
theorem not_five (c : UInt8) (h : wordB c = true ∨ numB c = true ∨ 0 ≤ signI c ∨ c = 34 ∨ c = 39 ∨ c = 36) : fiveQ c = false := by
  have h0 := byte_all (f := five_bytesT) five_bytes c
  unfold five_bytesT at h0
  cases hf : fiveQ c with
  | false => rfl
  | true =>
    rw [hf] at h0
    simp only [Bool.not_true, Bool.false_or, Bool.and_eq_true, Bool.not_eq_true', decide_eq_true_iff, bne_iff_ne] at h0
    obtain ⟨⟨⟨⟨⟨⟨⟨h1, h2⟩, h3⟩, h4⟩, h5⟩, h6⟩, h7⟩, h8⟩ := h0
    rcases h with h | h | h | h | h | h
    · rw [h1] at h; cases h
    · rw [h2] at h; cases h
    · omega
    · exact absurd h h4
    · exact absurd h h5
    · exact absurd h h6
/-- where a token may begin -/
theorem solid_of (x : ByteArray) (a : Nat) (c : UInt8) (r : Tx) (h : x.data.toList.drop a = c :: r) (hc : fiveQ c = false) (h45 : c ≠ 45 ∨ r.take 1 ≠ [45]) (h47 : c ≠ 47 ∨ r.take 1 ≠ [42]) : Solid x a := by
  obtain ⟨h1, h2, h3⟩ := head_lt x a c r h
  refine ⟨h1, by rw [h2]; exact hc, ?_, ?_⟩
  · rw [h, List.take_succ_cons]
    intro hh
    injection hh with h4 h5
    rcases h45 with h6 | h6
    · exact h6 h4
    · exact h6 h5
  · rw [h, List.take_succ_cons]
    intro hh
    injection hh with h4 h5
    rcases h47 with h6 | h6
    · exact h6 h4
    · exact h6 h5
def word_bytesT (c : UInt8) : Bool := !(wordB c) || ((c != 45) && (c != 47))
theorem word_bytes : ((List.range 256).all fun n => word_bytesT (UInt8.ofNat n)) = true := by kernel_rfl
def num_bytesT (c : UInt8) : Bool := !(numB c) || ((c != 45) && (c != 47))
theorem num_bytes : ((List.range 256).all fun n => num_bytesT (UInt8.ofNat n)) = true := by kernel_rfl
def low_bytesT (c : UInt8) : Bool := (lowB (lowB c) == lowB c) && (wordB (lowB c) == wordB c) && (letB (lowB c) == letB c)
theorem low_bytes : ((List.range 256).all fun n => low_bytesT (UInt8.ofNat n)) = true := by kernel_rfl
theorem low_facts (c : UInt8) : lowB (lowB c) = lowB c ∧ wordB (lowB c) = wordB c ∧ letB (lowB c) = letB c := by
  have h0 := byte_all (f := low_bytesT) low_bytes c
  unfold low_bytesT at h0
  simp only [Bool.and_eq_true, beq_iff_eq] at h0
  exact ⟨h0.1.1, h0.1.2, h0.2⟩
def dl_bytesT (c : UInt8) : Bool := !(digB c) || !(letB c)
theorem dl_bytes : ((List.range 256).all fun n => dl_bytesT (UInt8.ofNat n)) = true := by kernel_rfl
theorem dig_let (c : UInt8) (h : digB c = true) : letB c = false := by
  have := byte_all (f := dl_bytesT) dl_bytes c
  unfold dl_bytesT at this
  rw [h] at this
  simpa using this
/-- words -/
theorem good_word (l : Tx) (c : UInt8) (r : Tx) (hl : l = c :: r) (hc : letB c = true) (ha : ∀ d ∈ l, wordB d = true) (hlow : ∀ d ∈ l, lowB d = d) : Good 1 (bb l) := by
  intro x a rest p hd hg
  have hsh : shownL (1, bb l, p) = l := rfl
  rw [hsh] at hd ⊢
  have hd2 := hd
  rw [hl, List.cons_append] at hd2
  obtain ⟨h1, h2, h3⟩ := head_lt x a c _ hd2
  have hw : wordB c = true := ha c (by rw [hl]; simp)
  have hb := byte_all (f := word_bytesT) word_bytes c
  unfold word_bytesT at hb
  rw [hw] at hb
  simp only [Bool.not_true, Bool.false_or, Bool.and_eq_true, bne_iff_ne] at hb
  refine ⟨solid_of x a c _ hd2 (not_five c (.inl hw)) (.inl hb.1) (.inl hb.2), ?_⟩
  unfold oneP
  simp only [h2]
  rw [if_pos hc, hd, row_gap wordB l rest ha (by decide) hg, ext_at x a l.length l rest hd rfl]
  have : smallA (bb l) = bb l := by
    unfold smallA
    have hm : l.map lowB = l := by
      conv => rhs; rw [← List.map_id l]
      exact List.map_congr_left fun d hd => hlow d hd
    show bb (l.map lowB) = bb l
    rw [hm]
  rw [this]
/-- numbers -/
theorem good_num (l : Tx) (c : UInt8) (r : Tx) (hl : l = c :: r) (hc : digB c = true) (ha : ∀ d ∈ l, numB d = true) : Good 4 (bb l) := by
  intro x a rest p hd hg
  have hsh : shownL (4, bb l, p) = l := rfl
  rw [hsh] at hd ⊢
  have hd2 := hd
  rw [hl, List.cons_append] at hd2
  obtain ⟨h1, h2, h3⟩ := head_lt x a c _ hd2
  have hw : numB c = true := ha c (by rw [hl]; simp)
  have hb := byte_all (f := num_bytesT) num_bytes c
  unfold num_bytesT at hb
  rw [hw] at hb
  simp only [Bool.not_true, Bool.false_or, Bool.and_eq_true, bne_iff_ne] at hb
  refine ⟨solid_of x a c _ hd2 (not_five c (.inr (.inl hw))) (.inl hb.1) (.inl hb.2), ?_⟩
  unfold oneP
  simp only [h2]
  rw [if_neg (by rw [dig_let c hc]; decide), if_pos hc, hd, row_gap numB l rest ha (by decide) hg, ext_at x a l.length l rest hd rfl]
/-- texts in quotes -/
theorem bet_dbl (q : UInt8) (l rest : Tx) (hr : ∀ r, rest ≠ q :: r) : betL q (dblL q l ++ q :: rest) = some (l, (dblL q l).length + 1) := by
  induction l with
  | nil =>
    show betL q (q :: rest) = _
    rw [betL_cons, if_pos rfl]
    cases rest with
    | nil => rfl
    | cons d r =>
      have : d ≠ q := fun h => hr r (by rw [h])
      simp only [this, if_false]; rfl
  | cons c r ih =>
    have e : dblL q (c :: r) = (if c = q then [q, q] else [c]) ++ dblL q r := by simp [dblL]
    rw [e]
    by_cases hc : c = q
    · subst hc
      rw [if_pos rfl]
      show betL c (c :: c :: (dblL c r ++ c :: rest)) = _
      rw [betL_cons, if_pos rfl]
      simp only [if_true]
      rw [ih]
      simp
    · rw [if_neg hc]
      show betL q (c :: (dblL q r ++ q :: rest)) = _
      rw [betL_cons, if_neg hc, ih]
      simp
theorem quo_gap (q : UInt8) (hq : q ≠ 32) (t : ByteArray) (x : ByteArray) (a : Nat) (rest : Tx) (hd : x.data.toList.drop a = quoL q t.data.toList ++ rest) (hg : Gap rest) : quoAt x a q = some (t.data.toList, a + (quoL q t.data.toList).length) := by
  have hd2 : x.data.toList.drop a = q :: (dblL q t.data.toList ++ q :: rest) := by rw [hd]; simp [quoL]
  obtain ⟨h1, h2, h3⟩ := head_lt x a q _ hd2
  unfold quoAt
  rw [h3, bet_dbl q _ rest]
  · simp [quoL]; omega
  · intro r hr
    rcases hg with rfl | ⟨r2, rfl⟩
    · cases hr
    · injection hr with h4; exact hq h4.symm
theorem good_str (t : ByteArray) : Good 3 t := by
  intro x a rest p hd hg
  have hsh : shownL (3, t, p) = quoL 39 t.data.toList := rfl
  rw [hsh] at hd ⊢
  have hd2 : x.data.toList.drop a = 39 :: (dblL 39 t.data.toList ++ 39 :: rest) := by rw [hd]; simp [quoL]
  obtain ⟨h1, h2, h3⟩ := head_lt x a 39 _ hd2
  refine ⟨solid_of x a 39 _ hd2 (by decide) (.inl (by decide)) (.inl (by decide)), ?_⟩
  unfold oneP
  simp only [h2]
  rw [if_neg (by decide), if_neg (by decide), if_neg (by decide), if_pos trivial, quo_gap 39 (by decide) t x a rest hd hg]
theorem good_quoted (t : ByteArray) : Good 2 t := by
  intro x a rest p hd hg
  have hsh : shownL (2, t, p) = quoL 34 t.data.toList := rfl
  rw [hsh] at hd ⊢
  have hd2 : x.data.toList.drop a = 34 :: (dblL 34 t.data.toList ++ 34 :: rest) := by rw [hd]; simp [quoL]
  obtain ⟨h1, h2, h3⟩ := head_lt x a 34 _ hd2
  refine ⟨solid_of x a 34 _ hd2 (by decide) (.inl (by decide)) (.inl (by decide)), ?_⟩
  unfold oneP
  simp only [h2]
  rw [if_neg (by decide), if_neg (by decide), if_pos trivial, quo_gap 34 (by decide) t x a rest hd hg]
/-- signs -/
def sign_bytesT (c : UInt8) : Bool := decide (signI c < 0) || (!(letB c) && !(digB c) && (c != 34) && (c != 39) && (c != 36))
theorem sign_bytes : ((List.range 256).all fun n => sign_bytesT (UInt8.ofNat n)) = true := by kernel_rfl
theorem gap_take (rest : Tx) (hg : Gap rest) (c : UInt8) (hc : c ≠ 32) : rest.take 1 ≠ [c] := by
  rcases hg with rfl | ⟨r, rfl⟩
  · simp
  · simp; exact fun h => hc h.symm
theorem good_sign (c : UInt8) (hc : 0 ≤ signI c) : Good 5 (bb [c]) := by
  intro x a rest p hd hg
  have hsh : shownL (5, bb [c], p) = [c] := rfl
  rw [hsh] at hd ⊢
  have hd2 : x.data.toList.drop a = c :: rest := hd
  obtain ⟨h1, h2, h3⟩ := head_lt x a c _ hd2
  refine ⟨solid_of x a c _ hd2 (not_five c (.inr (.inr (.inl hc)))) (.inr (gap_take rest hg 45 (by decide))) (.inr (gap_take rest hg 42 (by decide))), ?_⟩
  have hb := byte_all (f := sign_bytesT) sign_bytes c
  unfold sign_bytesT at hb
  have hn : ¬ signI c < 0 := by omega
  rw [decide_eq_false hn] at hb
  simp only [Bool.false_or, Bool.and_eq_true, Bool.not_eq_true', bne_iff_ne] at hb
  obtain ⟨⟨⟨⟨b1, b2⟩, b3⟩, b4⟩, b5⟩ := hb
  unfold oneP
  simp only [h2]
  rw [if_neg (by rw [b1]; decide), if_neg (by rw [b2]; decide), if_neg b3, if_neg b4, if_neg b5, if_neg hn, ext_at x a 1 [c] rest hd rfl]
  rfl
theorem good_param (l : Tx) (hne : l ≠ []) (ha : ∀ d ∈ l, digB d = true) : Good 5 (bb (36 :: l)) := by
  intro x a rest p hd hg
  have hsh : shownL (5, bb (36 :: l), p) = 36 :: l := rfl
  rw [hsh] at hd ⊢
  have hd2 : x.data.toList.drop a = 36 :: (l ++ rest) := hd
  obtain ⟨h1, h2, h3⟩ := head_lt x a 36 _ hd2
  refine ⟨solid_of x a 36 _ hd2 (by decide) (.inl (by decide)) (.inl (by decide)), ?_⟩
  obtain ⟨d, r, rfl⟩ : ∃ d r, l = d :: r := by
    cases l with
    | nil => exact absurd rfl hne
    | cons d r => exact ⟨d, r, rfl⟩
  have hdd := ha d (by simp)
  have htl : tagL (x.data.toList.drop (a + 1)) = 0 := by rw [h3, List.cons_append, tagL_cons, if_neg (by rw [dig_let d hdd]; decide)]
  have hta : tagAt x a = -1 := by
    unfold tagAt
    rw [htl, Nat.add_zero, h3, if_neg]
    rw [List.cons_append, List.take_succ_cons]
    intro hh
    injection hh with h4
    subst h4
    exact absurd hdd (by decide)
  have hrow : rowL digB (x.data.toList.drop (a + 1)) = (d :: r).length := by rw [h3]; exact row_gap digB (d :: r) rest ha (by decide) hg
  unfold oneP
  simp only [h2]
  rw [if_neg (by decide), if_neg (by decide), if_neg (by decide), if_neg (by decide), if_pos trivial, hta, if_neg (by decide), hrow, if_neg (by simp)]
  have e : a + 1 + (d :: r).length = a + (36 :: d :: r).length := by simp; omega
  rw [e, ext_at x a _ (36 :: d :: r) rest hd rfl]
end Go.Proofs.YtlmgggipkdmdfaaDoor
