/- What stands behind a text: a line's end, Signs ; and a remark: Scan in plain words. Condition: none.
   Blanks, remarks, and Signs ; at the end make no difference for a normal form: in plain words. Condition: how long the text. -/
import Derived.Test.YtgnpkpboilnijaaGreatDoorG26
set_option linter.unusedSimpArgs false
set_option linter.unusedVariables false
namespace Go.Proofs.YtgnpkpboilnijaaGreatDoor
open Go.ChangeShapes Go.WideShapes Go.ChangeAt Go.RowKit
set_option maxRecDepth 100000
set_option linter.unusedVariables false
set_option linter.unusedSimpArgs false

theorem row_nl (p : UInt8 → Bool) (l t : Tx) (h : p 10 = false) : rowL p (l ++ 10 :: t) = rowL p l := by
  induction l with
  | nil => rw [List.nil_append, rowL_cons, h, if_neg (by decide)]; rfl
  | cons c r ih => rw [List.cons_append, rowL_cons, rowL_cons, ih]
theorem rem_app (t : Tx) : ∀ (k : Nat) (l : Tx) (d n : Nat), l.length ≤ k → remL d l = some n → remL d (l ++ t) = some n := by
  intro k
  induction k with
  | zero =>
    intro l d n hl h
    obtain rfl : l = [] := List.eq_nil_of_length_eq_zero (by omega)
    cases d with
    | zero => rw [remL] at h ⊢; exact h
    | succ d => rw [remL] at h; cases h
  | succ k ih =>
    intro l d n hl h
    cases d with
    | zero => rw [remL] at h ⊢; exact h
    | succ d =>
      match l, hl, h with
      | [], _, h => rw [remL] at h; cases h
      | [c], _, h =>
        rw [remL, if_neg (by simp), if_neg (by simp), remL] at h; cases h
      | c :: e :: r, hl, h =>
        rw [List.cons_append, List.cons_append]
        rw [remL] at h ⊢
        simp only [List.take_succ_cons, List.take_zero, List.drop_succ_cons, List.drop_zero] at h ⊢
        simp only [List.length_cons] at hl
        split at h
        · rename_i h1
          rw [if_pos h1]
          obtain ⟨m, hm, rfl⟩ := Option.map_eq_some_iff.1 h
          rw [ih r (d + 2) m (by omega) hm]; rfl
        · rename_i h1
          rw [if_neg h1]
          split at h
          · rename_i h2
            rw [if_pos h2]
            obtain ⟨m, hm, rfl⟩ := Option.map_eq_some_iff.1 h
            rw [ih r d m (by omega) hm]; rfl
          · rename_i h2
            rw [if_neg h2]
            obtain ⟨m, hm, rfl⟩ := Option.map_eq_some_iff.1 h
            have := ih (e :: r) (d + 1) m (by simp; omega) hm
            rw [List.cons_append] at this
            rw [this]; rfl
theorem bet_app (q : UInt8) (hq : q ≠ 10) (t : Tx) : ∀ (k : Nat) (l : Tx) (p : Tx × Nat), l.length ≤ k → betL q l = some p → betL q (l ++ 10 :: t) = some p := by
  intro k
  induction k with
  | zero =>
    intro l p hl h
    obtain rfl : l = [] := List.eq_nil_of_length_eq_zero (by omega)
    cases h
  | succ k ih =>
    intro l p hl h
    cases l with
    | nil => cases h
    | cons c r =>
      rw [List.cons_append]
      rw [betL_cons] at h ⊢
      rw [List.length_cons] at hl
      by_cases hc : c = q
      · rw [if_pos hc] at h ⊢
        cases r with
        | nil =>
          simp only [List.nil_append] at h ⊢
          rw [if_neg (fun e => hq e.symm)]
          exact h
        | cons d r2 =>
          simp only [List.cons_append] at h ⊢
          by_cases hd : d = q
          · rw [if_pos hd] at h ⊢
            obtain ⟨m, hm, rfl⟩ := Option.map_eq_some_iff.1 h
            rw [ih r2 m (by simp at hl; omega) hm]; rfl
          · rw [if_neg hd] at h ⊢; exact h
      · rw [if_neg hc] at h ⊢
        obtain ⟨m, hm, rfl⟩ := Option.map_eq_some_iff.1 h
        rw [ih r m (by omega) hm]; rfl
theorem pfx_len {m l : Tx} (h : m.isPrefixOf l = true) : m.length ≤ l.length := by
  have := List.isPrefixOf_iff_prefix.1 h
  exact this.length_le
theorem idx_len (l m : Tx) (h : 0 ≤ Lib.index l m) : m.length ≤ l.length := by
  induction l with
  | nil =>
    by_cases hm : m = []
    · subst hm; exact Nat.le_refl _
    · rw [idx_nil m hm] at h; omega
  | cons b l ih =>
    rw [idx_cons] at h
    by_cases h1 : m.isPrefixOf (b :: l) = true
    · exact pfx_len h1
    · rw [if_neg h1] at h
      by_cases h2 : Lib.index l m = -1
      · rw [if_pos h2] at h; omega
      · rw [if_neg h2] at h
        have hge := Lib.index_ge l m
        have := ih (by omega)
        rw [List.length_cons]; omega
theorem pfx_app (m l t : Tx) (h : m.length ≤ l.length) : m.isPrefixOf (l ++ t) = m.isPrefixOf l := by
  rw [Bool.eq_iff_iff, List.isPrefixOf_iff_prefix, List.isPrefixOf_iff_prefix]
  constructor
  · intro h2
    exact List.prefix_of_prefix_length_le h2 (List.prefix_append l t) h
  · intro h2
    exact h2.trans (List.prefix_append l t)
theorem idx_app (l m t : Tx) (h : 0 ≤ Lib.index l m) : Lib.index (l ++ t) m = Lib.index l m := by
  induction l with
  | nil =>
    by_cases hm : m = []
    · subst hm
      cases t with
      | nil => rfl
      | cons c r => rw [List.nil_append, idx_cons, if_pos (by simp)]; rfl
    · rw [idx_nil m hm] at h; omega
  | cons b l ih =>
    have hl := idx_len (b :: l) m h
    have hp := pfx_app m (b :: l) t hl
    rw [List.cons_append] at hp ⊢
    rw [idx_cons] at h
    rw [idx_cons, idx_cons, hp]
    by_cases h1 : m.isPrefixOf (b :: l) = true
    · rw [if_pos h1, if_pos h1]
    · rw [if_neg h1] at h
      rw [if_neg h1, if_neg h1]
      by_cases h2 : Lib.index l m = -1
      · rw [if_pos h2] at h; omega
      · rw [if_neg h2] at h
        have hge := Lib.index_ge l m
        rw [ih (by omega)]
/-- x is s with a line's end behind it, and more -/
structure Behind (x s : ByteArray) (t : Tx) : Prop where
  eq : x.data.toList = s.data.toList ++ 10 :: t
theorem Behind.size {x s : ByteArray} {t : Tx} (h : Behind x s t) : x.size = s.size + 1 + t.length := by
  have e1 : x.size = x.data.toList.length := rfl
  have e2 : s.size = s.data.toList.length := rfl
  rw [e1, h.eq, List.length_append, List.length_cons, e2]; omega
theorem Behind.drop {x s : ByteArray} {t : Tx} (h : Behind x s t) (a : Nat) (ha : a ≤ s.size) : x.data.toList.drop a = s.data.toList.drop a ++ 10 :: t := by
  rw [h.eq, List.drop_append_of_le_length (by exact ha)]
theorem Behind.head {x s : ByteArray} {t : Tx} (h : Behind x s t) (a : Nat) (ha : a < s.size) : (x.data.toList.drop a).headD 0 = (s.data.toList.drop a).headD 0 := by
  rw [h.drop a (by omega), byte_at s a ha]; rfl
theorem Behind.two {x s : ByteArray} {t : Tx} (h : Behind x s t) (a : Nat) (ha : a < s.size) (c d : UInt8) (hd : d ≠ 10) : (x.data.toList.drop a).take 2 = [c, d] ↔ (s.data.toList.drop a).take 2 = [c, d] := by
  rw [h.drop a (by omega), byte_at s a ha]
  cases hr : s.data.toList.drop (a + 1) with
  | nil =>
    simp only [List.cons_append, List.nil_append, List.take_succ_cons, List.take_zero]
    constructor
    · intro h2; simp at h2; exact absurd h2.2.symm hd
    · intro h2; simp at h2
  | cons e r => simp only [List.cons_append, List.take_succ_cons, List.take_zero]
theorem Behind.ext {x s : ByteArray} {t : Tx} (h : Behind x s t) (a b : Nat) (hb : b ≤ s.size) : x.extract a b = s.extract a b := by
  have hx := h.size
  rw [ext_to x a b (by omega), ext_to s a b hb]
  by_cases ha : a ≤ s.size
  · rw [h.drop a ha, List.take_append_of_le_length]
    rw [List.length_drop]
    have e2 : s.size = s.data.toList.length := rfl
    omega
  · rw [show b - a = 0 by omega, List.take_zero, List.take_zero]
theorem Behind.row {x s : ByteArray} {t : Tx} (h : Behind x s t) (p : UInt8 → Bool) (hp : p 10 = false) (a : Nat) (ha : a ≤ s.size) : rowL p (x.data.toList.drop a) = rowL p (s.data.toList.drop a) := by
  rw [h.drop a ha, row_nl p _ _ hp]
theorem Behind.solid {x s : ByteArray} {t : Tx} (h : Behind x s t) (a : Nat) (hS : Solid s a) : Solid x a := by
  have hx := h.size
  have hl := hS.lt
  exact ⟨by omega, by rw [h.head a hl]; exact hS.blank, fun e => hS.line ((h.two a hl 45 45 (by decide)).1 e), fun e => hS.rem ((h.two a hl 47 42 (by decide)).1 e)⟩
theorem Behind.quo {x s : ByteArray} {t : Tx} (h : Behind x s t) (a : Nat) (ha : a < s.size) (q : UInt8) (hq : q ≠ 10) (p : Tx × Nat) (hp : quoAt s a q = some p) : quoAt x a q = some p := by
  unfold quoAt at hp ⊢
  obtain ⟨m, hm, rfl⟩ := Option.map_eq_some_iff.1 hp
  rw [h.drop (a + 1) ha, bet_app q hq t _ _ m (Nat.le_refl _) hm]; rfl
theorem tag_nl (l t : Tx) : tagL (l ++ 10 :: t) = tagL l := by
  unfold tagL
  rw [row_nl letB l t (by decide), row_nl tagB l t (by decide)]
theorem tag_len (l : Tx) : tagL l ≤ l.length := by
  unfold tagL
  split
  · exact Nat.zero_le _
  · exact rowL_le _ _
theorem Behind.tag {x s : ByteArray} {t : Tx} (h : Behind x s t) (a : Nat) (ha : a < s.size) : tagAt x a = tagAt s a := by
  have hl := tag_len (s.data.toList.drop (a + 1))
  rw [List.length_drop] at hl
  have e2 : s.size = s.data.toList.length := rfl
  unfold tagAt
  rw [h.drop (a + 1) ha, tag_nl]
  generalize tagL (s.data.toList.drop (a + 1)) = k at *
  rw [h.drop (a + 1 + k) (by omega)]
  cases hr : s.data.toList.drop (a + 1 + k) with
  | nil => simp
  | cons c r => rfl
theorem Behind.dol {x s : ByteArray} {t : Tx} (h : Behind x s t) (a n : Nat) (hn : n ≤ s.size) (p : Tx × Nat) (hp : dolAt s a n = some p) : dolAt x a n = some p := by
  unfold dolAt at hp ⊢
  rw [h.ext a n hn, h.drop n hn]
  generalize (s.extract a n).data.toList = m at *
  generalize s.data.toList.drop n = l at *
  split at hp
  · rename_i h0
    have hl := idx_len l m h0
    rw [idx_app l m _ h0, if_pos h0]
    rw [← hp]
    congr 2
    rw [List.take_append_of_le_length]
    have := Lib.index_le l m
    omega
  · cases hp
end Go.Proofs.YtgnpkpboilnijaaGreatDoor
namespace Go.Proofs.YtgnpkpboilnijaaGreatDoor
open Go.ChangeShapes Go.WideShapes Go.ChangeAt Go.RowKit
set_option maxRecDepth 100000
set_option linter.unusedVariables false
set_option linter.unusedSimpArgs false

theorem row_in (p : UInt8 → Bool) (s : ByteArray) (a : Nat) (ha : a ≤ s.size) : a + rowL p (s.data.toList.drop a) ≤ s.size := row_end s p a ha
theorem Behind.one {x s : ByteArray} {t : Tx} (h : Behind x s t) (a : Nat) (hS : Solid s a) (he : (oneP s a).2.2 = 0) : oneP x a = oneP s a := by
  have ha := hS.lt
  have hh := h.head a ha
  unfold oneP at he ⊢
  rw [hh]
  simp only at he ⊢
  generalize (s.data.toList.drop a).headD 0 = c at *
  rw [h.row wordB (by decide) a (by omega), h.row numB (by decide) a (by omega), h.row digB (by decide) (a + 1) ha, h.tag a ha]
  by_cases h1 : letB c = true
  · rw [if_pos h1, if_pos h1, h.ext a _ (row_in _ s a (by omega))]
  · rw [if_neg h1] at he
    rw [if_neg h1, if_neg h1]
    by_cases h2 : digB c = true
    · rw [if_pos h2, if_pos h2, h.ext a _ (row_in _ s a (by omega))]
    · rw [if_neg h2] at he
      rw [if_neg h2, if_neg h2]
      by_cases h3 : c = 34
      · rw [if_pos h3] at he
        rw [if_pos h3, if_pos h3]
        cases hq : quoAt s a 34 with
        | none => rw [hq] at he; exact absurd (show (6 : Int) = 0 from he) (by decide)
        | some p => rw [h.quo a ha 34 (by decide) p hq]
      · rw [if_neg h3] at he
        rw [if_neg h3, if_neg h3]
        by_cases h4 : c = 39
        · rw [if_pos h4] at he
          rw [if_pos h4, if_pos h4]
          cases hq : quoAt s a 39 with
          | none => rw [hq] at he; exact absurd (show (6 : Int) = 0 from he) (by decide)
          | some p => rw [h.quo a ha 39 (by decide) p hq]
        · rw [if_neg h4] at he
          rw [if_neg h4, if_neg h4]
          by_cases h5 : c = 36
          · rw [if_pos h5] at he
            rw [if_pos h5, if_pos h5]
            by_cases h6 : 0 < tagAt s a
            · rw [if_pos h6] at he
              rw [if_pos h6, if_pos h6]
              have hc := tagAt_cases s a ha
              cases hq : dolAt s a (tagAt s a).toNat with
              | none => rw [hq] at he; exact absurd (show (6 : Int) = 0 from he) (by decide)
              | some p => rw [h.dol a _ (by rcases hc with hc | hc <;> omega) p hq]
            · rw [if_neg h6, if_neg h6, h.ext a _ (by have := row_in digB s (a + 1) ha; omega)]
          · rw [if_neg h5, if_neg h5, h.ext a _ (by omega)]
theorem Behind.line {x s : ByteArray} {t : Tx} (h : Behind x s t) (a : Nat) (ha : a ≤ s.size) : lineEnd x a = lineEnd s a := by
  unfold lineEnd
  rw [h.row notNl (by decide) a ha]
theorem Behind.rem {x s : ByteArray} {t : Tx} (h : Behind x s t) (a n : Nat) (ha : a + 2 ≤ s.size) (hr : remAt s a = some n) : remAt x a = some n := by
  unfold remAt at hr ⊢
  obtain ⟨m, hm, rfl⟩ := Option.map_eq_some_iff.1 hr
  rw [h.drop (a + 2) ha, rem_app _ _ _ _ m (Nat.le_refl _) hm]; rfl
theorem Behind.gap {x s : ByteArray} {t : Tx} (h : Behind x s t) (acc : List Tok) : ∀ (f a : Nat), a ≤ s.size → (gapN f s a).2 = false → scanF x a acc = scanF x (gapN f s a).1 acc := by
  have hx := h.size
  intro f
  induction f with
  | zero => intro a ha hb; rfl
  | succ f ih =>
    intro a ha hb
    by_cases he : s.size ≤ a
    · rw [gapN_end f s a he]
    · have hlt : a < s.size := by omega
      cases hbl : fiveQ ((s.data.toList.drop a).headD 0) with
      | true =>
        rw [gapN_blank f s a he hbl] at hb ⊢
        rw [← ih (a + 1) (by omega) hb, scan_blank x a acc (by omega) (by rw [h.head a hlt]; exact hbl)]
      | false =>
        by_cases hl : (s.data.toList.drop a).take 2 = [45, 45]
        · rw [gapN_line f s a he hbl hl] at hb ⊢
          rw [← ih (lineEnd s a) (lineEnd_le s a ha) hb, scan_line x a acc (by omega) (by rw [h.head a hlt]; exact hbl) ((h.two a hlt 45 45 (by decide)).2 hl), h.line a ha]
        · by_cases hr : (s.data.toList.drop a).take 2 = [47, 42]
          · rw [gapN_rem f s a he hbl hl hr] at hb ⊢
            cases hra : remAt s a with
            | none => simp [hra] at hb
            | some n =>
              rw [hra] at hb
              simp only at hb ⊢
              have hn := remAt_le s a n hra hr
              have h2 := len2 _ _ s a hr
              have hs := scan_rem x a acc (by omega) (by rw [h.head a hlt]; exact hbl) ((h.two a hlt 47 42 (by decide)).2 hr)
              rw [h.rem a n h2 hra] at hs
              simp only at hs
              rw [← ih n hn.2 hb, hs]
          · rw [gapN_stop f s a he hbl hl hr]
theorem Behind.scan {x s : ByteArray} {t : Tx} (h : Behind x s t) : ∀ (n a : Nat) (acc : List Tok), s.size - a ≤ n → a ≤ s.size → (scanF s a acc).2.1 = 0 → scanF x a acc = scanF x s.size (scanF s a acc).1 := by
  intro n
  induction n with
  | zero =>
    intro a acc hn ha he
    obtain rfl : a = s.size := by omega
    rw [scanF_end s s.size acc (Nat.le_refl _)]
  | succ n ih =>
    intro a acc hn ha he
    obtain ⟨g1, g2, g3, g4⟩ := scan_gap s acc (s.size - a) (s.size + 1) a (Nat.le_refl _) (by omega) ha
    cases hb : (gapN (s.size + 1) s a).2 with
    | true =>
      rw [g1, hb, if_pos rfl] at he
      exact absurd he (by show ¬ (6 : Int) = 0; decide)
    | false =>
      have hg := h.gap acc (s.size + 1) a ha hb
      rw [g1, hb, if_neg (by decide)] at he
      rw [hg, g1, hb, if_neg (by decide)]
      have g5 := g4 hb
      generalize (gapN (s.size + 1) s a).1 = b at *
      by_cases hlt : b < s.size
      · have hS := g5 hlt
        obtain ⟨o1, o2⟩ := scan_one s b acc hS
        rw [o1] at he ⊢
        by_cases h0 : (oneP s b).2.2 = 0
        · rw [if_pos h0] at he ⊢
          obtain ⟨o3, o4⟩ := o2 h0
          have hx1 := (scan_one x b acc (h.solid b hS)).1
          rw [h.one b hS h0, if_pos h0] at hx1
          rw [hx1]
          exact ih _ _ (by omega) o4 he
        · rw [if_neg h0] at he
          exact absurd he h0
      · obtain rfl : b = s.size := by omega
        rw [scanF_end s s.size acc (Nat.le_refl _)]
abbrev tailT : Tx := [59, 59, 32, 45, 45, 32, 101, 110, 100]
theorem semi_one (x : ByteArray) (a : Nat) (r : Tx) (h : x.data.toList.drop a = 59 :: r) (acc : List Tok) : scanF x a acc = scanF x (a + 1) (acc ++ [(5, bb [59], (a : Int))]) := by
  obtain ⟨h1, h2, h3⟩ := head_lt x a 59 r h
  have hS := solid_of x a 59 r h (by decide) (.inl (by decide)) (.inl (by decide))
  refine scan_good x a acc 5 (bb [59]) (a + 1) hS ?_
  unfold oneP
  simp only [h2]
  rw [if_neg (by decide), if_neg (by decide), if_neg (by decide), if_neg (by decide), if_neg (by decide), if_neg (by decide), ext_at x a 1 [59] r h rfl]
theorem Behind.tail {x s : ByteArray} (h : Behind x s tailT) (acc : List Tok) : scanF x s.size acc = (acc ++ [(5, bb [59], ((s.size + 1 : Nat) : Int))] ++ [(5, bb [59], ((s.size + 1 + 1 : Nat) : Int))], 0, 0) := by
  have hx := h.size
  have hxl : x.size = s.size + 10 := by rw [hx]; rfl
  have d0 : x.data.toList.drop s.size = 10 :: tailT := by
    rw [h.drop s.size (Nat.le_refl _), drop_nil s s.size (by omega)]; rfl
  have dn : ∀ k, x.data.toList.drop (s.size + k) = ((10 :: tailT : Tx)).drop k := fun k => by rw [← List.drop_drop, d0]
  rw [scan_blank x s.size acc (by omega) (by rw [d0]; show fiveQ 10 = true; decide)]
  rw [semi_one x (s.size + 1) _ (dn 1), semi_one x (s.size + 1 + 1) _ (dn 2)]
  rw [scan_blank x (s.size + 1 + 1 + 1) _ (by omega) (by rw [dn 3]; show fiveQ 32 = true; decide)]
  rw [scan_line x (s.size + 1 + 1 + 1 + 1) _ (by omega) (by rw [dn 4]; show fiveQ 45 = false; decide) (by rw [dn 4]; rfl)]
  have hle : lineEnd x (s.size + 1 + 1 + 1 + 1) = x.size := by
    unfold lineEnd
    rw [dn 4, hxl]
    rfl
  rw [hle, scanF_end x x.size _ (Nat.le_refl _)]
theorem semi_is (a : Int) : isSemi (5, bb [59], a) = true := by
  unfold isSemi
  show ((5 : Int) == 5 && (bb [59]).toList == [59]) = true
  rw [Lib.toList_data]; rfl
abbrev preB : ByteArray := ⟨#[32, 47, 42, 32, 114, 32, 42, 47, 32]⟩
abbrev sufB : ByteArray := ⟨#[10, 59, 59, 32, 45, 45, 32, 101, 110, 100]⟩
theorem pre_rem (l : Tx) : remL 1 ([32, 114, 32, 42, 47, 32] ++ l) = some 5 := by
  show remL 1 (32 :: 114 :: 32 :: 42 :: 47 :: 32 :: l) = some 5
  rw [remL, if_neg (by simp), if_neg (by simp), remL, if_neg (by simp), if_neg (by simp), remL, if_neg (by simp), if_neg (by simp), remL, if_neg (by simp), if_pos (by rfl)]
  show ((((remL 0 (32 :: l)).map (· + 2)).map (· + 1)).map (· + 1)).map (· + 1) = some 5
  rw [remL]; rfl
theorem scan_pre (s : ByteArray) : scanF (preB ++ s) 0 [] = shR 9 (scanF s 0 []) := by
  obtain ⟨x, hx⟩ : ∃ x, preB ++ s = x := ⟨_, rfl⟩
  have hxl : x.data.toList = 32 :: 47 :: 42 :: 32 :: 114 :: 32 :: 42 :: 47 :: 32 :: s.data.toList := by rw [← hx]; simp
  have hsz : x.size = s.size + 9 := by
    have e : x.size = x.data.toList.length := rfl
    have e2 : s.size = s.data.toList.length := rfl
    rw [e, hxl, e2]; rfl
  rw [hx]
  have s1 : scanF x 0 [] = scanF x 1 [] := scan_blank x 0 [] (by omega) (by rw [hxl]; show fiveQ 32 = true; decide)
  have s2 : scanF x 1 [] = scanF x 8 [] := by
    have h1 : x.data.toList.drop 1 = 47 :: 42 :: 32 :: 114 :: 32 :: 42 :: 47 :: 32 :: s.data.toList := by rw [hxl]; rfl
    have h := scan_rem x 1 [] (by omega) (by rw [h1]; show fiveQ 47 = false; decide) (by rw [h1]; rfl)
    have hr : remAt x 1 = some 8 := by
      unfold remAt
      have h3 : x.data.toList.drop (1 + 2) = [32, 114, 32, 42, 47, 32] ++ s.data.toList := by rw [hxl]; rfl
      rw [h3, pre_rem]; rfl
    rw [hr] at h
    exact h
  have s3 : scanF x 8 [] = scanF x 9 [] := by
    have h1 : x.data.toList.drop 8 = 32 :: s.data.toList := by rw [hxl]; rfl
    exact scan_blank x 8 [] (by omega) (by rw [h1]; show fiveQ 32 = true; decide)
  rw [s1, s2, s3]
  have hsh := scan_shift s x 9 hsz (fun a => by rw [← hx]; exact ext_app preB s a) (s.size + 1) 0 []
  unfold scanF
  rw [← hsh]
  exact scan_fuel x s.size _ _ 9 [] (by omega) (by omega) (by omega)
theorem bare_shift (d : Nat) (l : List Tok) : (l.map (shT d)).map bare = l.map bare := by
  rw [List.map_map]; rfl
theorem show_shift (d : Nat) (l : List Tok) : showL (tokensL (l.map (shT d))) = showL (tokensL l) := by
  rw [← show_bare (tokensL (l.map (shT d))), ← show_bare (tokensL l), ← tokens_bare, ← tokens_bare, bare_shift]
/-- blanks, a remark, Signs ; and a remark to the end round a text make no difference for its normal form -/
theorem form_around (s : ByteArray) (h : (scanA s).2.1 = 0) (hs : s.size ≤ 1900) : formA ((preB ++ s) ++ sufB) = formA s := by
  have e : formA s = (showL (tokensL (scanA s).1), 0) := by unfold formA; rw [if_pos h]
  rw [e]
  have hA : scanA s = scanF s 0 [] := scanA_F s (by omega)
  rw [hA] at h ⊢
  have has : (preB ++ s) ++ sufB = preB ++ (s ++ sufB) := ByteArray.append_assoc
  have hB : Behind (s ++ sufB) s tailT := ⟨by simp⟩
  have hsc := hB.scan s.size 0 [] (by omega) (Nat.zero_le _) h
  rw [hB.tail] at hsc
  have hsz : (preB ++ (s ++ sufB)).size ≤ 2000 := by rw [ByteArray.size_append, ByteArray.size_append]; show 9 + (s.size + 10) ≤ 2000; omega
  have hA2 : scanA ((preB ++ s) ++ sufB) = shR 9 (scanF (s ++ sufB) 0 []) := by rw [has, scanA_F _ hsz, scan_pre]
  rw [hsc] at hA2
  have e2 : formA ((preB ++ s) ++ sufB) = (showL (tokensL (((scanF s 0 []).1 ++ [(5, bb [59], ((s.size + 1 : Nat) : Int))] ++ [(5, bb [59], ((s.size + 1 + 1 : Nat) : Int))]).map (shT 9))), 0) := by
    unfold formA; rw [hA2]; rfl
  rw [e2, show_shift, tokens_semi _ _ (semi_is _), tokens_semi _ _ (semi_is _)]
end Go.Proofs.YtgnpkpboilnijaaGreatDoor
