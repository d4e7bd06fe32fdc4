/- Tokens as text in plain words; what package lexer's quote and shown answer. Conditions: the word of bytealg, a text's length. -/
import Derived.Test.YtlmgggipkdmdfaaDoorBld
import Derived.Test.YtlmgggipkdmdfaaDoorShelf
import Derived.Test.YtlmgggipkdmdfaaDoorLxq
import Derived.Lib.ReplaceLaws
import Derived.Lib.SplitLaws
namespace Go.Proofs.YtlmgggipkdmdfaaDoor
open Go.ChangeShapes Go.WideShapes Go.ChangeAt Go.RowKit
set_option linter.unusedVariables false
set_option linter.unusedSimpArgs false

/-- each q doubled -/
def dblL (q : UInt8) (l : Tx) : Tx := l.flatMap fun c => if c = q then [q, q] else [c]
theorem dbl_size (q : UInt8) (l : Tx) : (dblL q l).length ≤ 2 * l.length := by
  induction l with
  | nil => simp [dblL]
  | cons c r ih =>
    have e : dblL q (c :: r) = (if c = q then [q, q] else [c]) ++ dblL q r := by simp [dblL]
    rw [e, List.length_append, List.length_cons]
    have : (if c = q then [q, q] else [c]).length ≤ 2 := by split <;> simp
    omega
theorem rep_dbl (q : UInt8) : ∀ (l : Tx) (k : Nat), k = l.count q → Lib.replaceK [q] [q, q] k l = dblL q l := by
  intro l
  induction l with
  | nil => intro k hk; simp at hk; subst hk; rfl
  | cons c r ih =>
    intro k hk
    have e : dblL q (c :: r) = (if c = q then [q, q] else [c]) ++ dblL q r := by simp [dblL]
    rw [e]
    by_cases hc : c = q
    · subst hc
      rw [if_pos rfl]
      rw [List.count_cons_self] at hk
      subst hk
      rw [Lib.replaceK_hit [c] [c, c] _ (c :: r) 0 (by unfold Lib.index; simp)]
      have := ih _ rfl
      simpa using this
    · rw [if_neg hc]
      have hb : (c == q) = false := by rw [beq_eq_false_iff_ne]; exact hc
      have hqc : (q == c) = false := by rw [beq_eq_false_iff_ne]; exact fun h => hc h.symm
      rw [List.count_cons, hb] at hk
      simp only [Bool.false_eq_true, if_false, Nat.add_zero] at hk
      have ih' := ih k hk
      cases k with
      | zero => simp only [Lib.replaceK] at ih' ⊢; rw [← ih']; rfl
      | succ k =>
        obtain ⟨i, hi⟩ : ∃ i : Nat, Lib.index r [q] = i := Lib.index_of_count (by rw [Lib.count_one, ← hk]; omega)
        rw [Lib.replaceK_hit _ _ _ _ i hi] at ih'
        have hi2 : Lib.index (c :: r) [q] = ((i + 1 : Nat) : Int) := by
          unfold Lib.index
          rw [hi]
          simp [List.isPrefixOf, hqc]
          try omega
        rw [Lib.replaceK_hit _ _ _ _ (i + 1) hi2, ← ih']
        simp
theorem all_dbl (q : UInt8) (l : Tx) : Lib.replaceAll l [q] [q, q] = dblL q l := by
  unfold Lib.replaceAll Lib.replace
  rw [if_neg (by simp)]
  exact rep_dbl q l _ (by unfold Lib.replaceNum; rw [if_pos (by omega), Lib.count_one])
/-- a text in quotes -/
def quoL (q : UInt8) (l : Tx) : Tx := [q] ++ dblL q l ++ [q]
/-- a token as text -/
def shownL (t : Tok) : Tx := if t.1 = 2 then quoL 34 t.2.1.data.toList else if t.1 = 3 then quoL 39 t.2.1.data.toList else t.2.1.data.toList
theorem quo_size (q : UInt8) (l : Tx) : (quoL q l).length ≤ 2 * l.length + 2 := by
  have := dbl_size q l
  simp only [quoL, List.length_append, List.length_singleton]
  omega
theorem shown_size (t : Tok) : (shownL t).length ≤ 2 * t.2.1.size + 2 := by
  have h : t.2.1.data.toList.length = t.2.1.size := rfl
  unfold shownL
  split
  · have := quo_size 34 t.2.1.data.toList; omega
  · split
    · have := quo_size 39 t.2.1.data.toList; omega
    · omega
theorem app_one (q : UInt8) : (⟨#[q]⟩ : ByteArray) ++ (⟨#[q]⟩ : ByteArray) = ⟨#[q, q]⟩ := by apply ByteArray.ext; simp
theorem quo_eq (q : UInt8) (l : Tx) : (⟨#[q]⟩ : ByteArray) ++ ⟨(dblL q l).toArray⟩ ++ ⟨#[q]⟩ = ⟨(quoL q l).toArray⟩ := by apply ByteArray.ext; simp [quoL]
theorem rep_any (q : UInt8) (s : ByteArray) (m : Int) (w : World) (hs : s.size ≤ 1048576) (hm : Wd m w) :
    Calls Tryd.prog 63 #[.string s, .string ⟨#[q]⟩, .string ⟨#[q, q]⟩] w fun e w' => e = .returned (.string ⟨(dblL q s.data.toList).toArray⟩) ∧ Below w.heap.size w w' := by
  refine (Tryd.strings_ReplaceAll s ⟨#[q]⟩ ⟨#[q, q]⟩ m w (by omega) hm (Nat.le_refl 1) ?_).mono ?_
  · have h1 := Lib.countB_le ⟨#[q]⟩ (Nat.le_refl 1) s.size s (Nat.le_refl _)
    have h2 : (⟨#[q, q]⟩ : ByteArray).size = 2 := rfl
    rw [h2]; omega
  · rintro e w' ⟨rfl, hb⟩
    refine ⟨?_, hb⟩
    show _ = Ending.returned (.string ⟨(dblL q s.data.toList).toArray⟩)
    rw [← all_dbl]
set_option maxHeartbeats 1000000 in
theorem quote_any (q : UInt8) (s : ByteArray) (m : Int) (w : World) (hs : s.size ≤ 1048576) (hm : Wd m w) :
    Calls Tryd.prog 48 #[.string s, .string ⟨#[q]⟩] w fun e w' => e = .returned (.string ⟨(quoL q s.data.toList).toArray⟩) ∧ Below w.heap.size w w' := by
  have hc := rep_any q s m w hs hm
  have hz : (⟨(dblL q s.data.toList).toArray⟩ : ByteArray).size ≤ 2097152 := by
    have := dbl_size q s.data.toList
    have e : s.data.toList.length = s.size := rfl
    show (dblL q s.data.toList).toArray.size ≤ _
    rw [List.size_toArray]; omega
  have hq := quo_eq q s.data.toList
  have h1 : (⟨#[q]⟩ : ByteArray).size = 1 := rfl
  have h2 := app_one q
  rw [← h2] at hc
  generalize (⟨(dblL q s.data.toList).toArray⟩ : ByteArray) = D at *
  generalize (⟨(quoL q s.data.toList).toArray⟩ : ByteArray) = R at *
  subst hq
  generalize (⟨#[q]⟩ : ByteArray) = Q at *
  have HC := Lib.hid hc
  clear hc h2 hs hm
  go_enter Tryd.func48, Tryd.ntmps48
  have hQ : Q.size ≤ 2000 := by omega
  go_wp2_with (go_at_call 63; (with_reducible refine HC.out.mono ?_); rintro e w1 ⟨rfl, hb⟩)
  go_ret
  exact ⟨rfl, hb⟩
set_option maxHeartbeats 1000000 in
set_option maxRecDepth 100000 in
theorem shown_any (t : Tok) (m : Int) (w : World) (hs : t.2.1.size ≤ 1048576) (hm : Wd m w) :
    Calls Tryd.prog 23 #[.agg #[.int .i64 t.1, .string t.2.1, .int .i64 t.2.2]] w fun e w' => e = .returned (.string ⟨(shownL t).toArray⟩) ∧ Below w.heap.size w w' := by
  obtain ⟨kd, s, at_⟩ := t
  have hq := fun (q : UInt8) (w1 : World) (h1 : Wd m w1) => quote_any q s m w1 hs h1
  have HQ := Lib.hid hq
  have HM := Lib.hid hm
  clear hq hm hs
  show Calls Tryd.prog 23 #[.agg #[.int .i64 kd, .string s, .int .i64 at_]] w _
  have hb0 : Below w.heap.size w (w.alloc (.cells #[.int .i64 kd, .string s, .int .i64 at_] 30)) := (Below.refl _ _).alloc (Nat.le_refl _) _
  by_cases h2 : kd = 2
  · subst h2
    go_enter Tryd.func23, Tryd.ntmps23
    go_wp2_with (go_at_call 48; (with_reducible refine (HQ.out 34 _ (HM.out.below hb0)).mono ?_); rintro e w1 ⟨rfl, hb⟩)
    go_ret
    exact ⟨rfl, hb0.trans (hb.mono hb0.size)⟩
  · have e2 : (kd == (2 : Int)) = false := by rw [beq_eq_false_iff_ne]; exact h2
    by_cases h3 : kd = 3
    · subst h3
      go_enter Tryd.func23, Tryd.ntmps23
      go_wp2_with (go_at_call 48; (with_reducible refine (HQ.out 39 _ (HM.out.below hb0)).mono ?_); rintro e w1 ⟨rfl, hb⟩)
      go_ret
      exact ⟨rfl, hb0.trans (hb.mono hb0.size)⟩
    · have e3 : (kd == (3 : Int)) = false := by rw [beq_eq_false_iff_ne]; exact h3
      have hr : shownL (kd, s, at_) = s.data.toList := by unfold shownL; rw [if_neg h2, if_neg h3]
      rw [hr]
      have HN := Lib.hid (And.intro h2 h3)
      clear h2 h3 hr
      go_enter Tryd.func23, Tryd.ntmps23
      go_wp2
      go_ret
      exact ⟨by simp, hb0⟩
/-- what stands behind the first of some tokens -/
def tailL (l : List Tok) : Tx := l.flatMap fun t => 32 :: shownL t
/-- tokens as text -/
def showL : List Tok → Tx
  | [] => []
  | t :: r => shownL t ++ tailL r
theorem show_snoc (l : List Tok) (t : Tok) : showL (l ++ [t]) = showL l ++ (if l = [] then [] else [32]) ++ shownL t := by
  cases l with
  | nil => simp [showL, tailL]
  | cons x r => simp [showL, tailL]
theorem show_size (l : List Tok) (z : Nat) (h : ∀ t ∈ l, t.2.1.size ≤ z) : (showL l).length ≤ l.length * (2 * z + 3) := by
  have ht : ∀ r : List Tok, (∀ t ∈ r, t.2.1.size ≤ z) → (tailL r).length ≤ r.length * (2 * z + 3) := by
    intro r
    induction r with
    | nil => intro _; simp [tailL]
    | cons x r ih =>
      intro hr
      have e : tailL (x :: r) = 32 :: shownL x ++ tailL r := by simp [tailL]
      have h1 := shown_size x
      have h2 := hr x (by simp)
      have h3 := ih fun t h => hr t (by simp [h])
      rw [e, List.length_append, List.length_cons, List.length_cons, Nat.succ_mul]
      omega
  cases l with
  | nil => simp [showL]
  | cons x r =>
    have h1 := shown_size x
    have h2 := h x (by simp)
    have h3 := ht r fun t h' => h t (by simp [h'])
    rw [showL, List.length_append, List.length_cons, Nat.succ_mul]
    omega
end Go.Proofs.YtlmgggipkdmdfaaDoor
