/- What package lexer's isTag, mark, dollars answer. Condition: the word of bytealg; a text's length. -/
import Derived.Test.YtlmgggipkdmdfaaDoorLxk
import Derived.WalkMore
import Derived.BigQuiet
import Derived.IntWalk
import Derived.Deep.QuietTactic
namespace Go.Proofs.YtlmgggipkdmdfaaDoor
open Go.ChangeShapes Go.WideShapes Go.ChangeAt Go.RowKit
set_option linter.unusedVariables false
set_option linter.unusedSimpArgs false

def isTagL (l : Tx) : Bool := l.isEmpty || (decide (0 < rowL letB l) && decide (rowL tagB l = l.length))
theorem isTag_any (s : ByteArray) (w : World) : Calls Tryd.prog 67 #[.string s] w fun e w' => e = .returned (.bool (isTagL s.data.toList)) ∧ Below w.heap.size w w' := by
  have hr := fun w => row_letter letN letB true (Lib.hid kin_let) s w (Lib.hid (weak_ let_any))
  have hq := fun w => row_tag tagN tagB true (Lib.hid kin_tag) s w (Lib.hid (weak_ tag_any))
  have e0 : isTagL s.data.toList = (s.toList.isEmpty || (decide ((0 : Int) < (rowL letB s.data.toList : Int)) && ((rowL tagB s.data.toList : Int) == (s.size : Int)))) := by
    unfold isTagL
    rw [Lib.toList_data, ← Lib.size_eq]
    congr 1
    rw [Bool.eq_iff_iff]
    simp only [Bool.and_eq_true, decide_eq_true_eq, beq_iff_eq]
    omega
  rw [e0]
  clear e0
  generalize rowL letB s.data.toList = n at *
  generalize rowL tagB s.data.toList = m at *
  have HR := Lib.hid hr
  have HQ := Lib.hid hq
  clear hr hq
  cases h0 : s.toList.isEmpty with
  | true =>
    go_enter Tryd.func67, Tryd.ntmps67
    go_wp2
    go_ret
    exact ⟨rfl, Below.refl _ _⟩
  | false =>
    by_cases hn : (0 : Int) < (n : Int)
    · rw [decide_eq_true hn]
      cases hb : ((m : Int) == (s.size : Int)) with
      | true =>
        go_enter Tryd.func67, Tryd.ntmps67
        go_wp2_with (first
          | (go_at_call 49; (with_reducible refine (HR.out _).mono ?_); rintro e w1 ⟨rfl, hb1⟩)
          | (go_at_call 49; (with_reducible refine (HQ.out _).mono ?_); rintro e w2 ⟨rfl, hb2⟩))
        go_ret
        exact ⟨rfl, hb1.trans (hb2.mono hb1.size)⟩
      | false =>
        go_enter Tryd.func67, Tryd.ntmps67
        go_wp2_with (first
          | (go_at_call 49; (with_reducible refine (HR.out _).mono ?_); rintro e w1 ⟨rfl, hb1⟩)
          | (go_at_call 49; (with_reducible refine (HQ.out _).mono ?_); rintro e w2 ⟨rfl, hb2⟩))
        go_ret
        exact ⟨rfl, hb1.trans (hb2.mono hb1.size)⟩
    · rw [decide_eq_false hn]
      go_enter Tryd.func67, Tryd.ntmps67
      go_wp2_with (first
        | (go_at_call 49; (with_reducible refine (HR.out _).mono ?_); rintro e w1 ⟨rfl, hb1⟩))
      go_ret
      exact ⟨rfl, hb1⟩
theorem index_ge (s sub : Tx) : -1 ≤ Lib.index s sub := by
  induction s with
  | nil => unfold Lib.index; split <;> omega
  | cons b l ih =>
    unfold Lib.index
    split
    · omega
    · split <;> omega
theorem index_len (s sub : Tx) (h : 0 ≤ Lib.index s sub) : (Lib.index s sub).toNat + sub.length ≤ s.length := by
  induction s with
  | nil =>
    unfold Lib.index at h ⊢
    by_cases e : sub.isEmpty
    · rw [if_pos e]; simp at e; subst e; simp
    · rw [if_neg e] at h; omega
  | cons b l ih =>
    unfold Lib.index at h ⊢
    by_cases e : sub.isPrefixOf (b :: l)
    · rw [if_pos e]
      have := (List.isPrefixOf_iff_prefix.1 e).length_le
      simpa using this
    · rw [if_neg e] at h ⊢
      by_cases e2 : (Lib.index l sub == -1) = true
      · rw [if_pos e2] at h; omega
      · rw [if_neg e2] at h ⊢
        have g := index_ge l sub
        have n : Lib.index l sub ≠ -1 := by simpa using e2
        have := ih (by omega)
        rw [List.length_cons]; omega
theorem cut_len (s sep : Tx) (h : (Lib.cut s sep).2.2 = true) : (Lib.cut s sep).1.length + sep.length ≤ s.length := by
  unfold Lib.cut at h ⊢
  by_cases e : 0 ≤ Lib.index s sep
  · rw [if_pos e]
    have := index_len s sep e
    simp; omega
  · rw [if_neg e] at h; cases h
theorem mark_core (s r t t2 : ByteArray) (b ends ok : Bool) (m : Int) (w : World) (hm : Wd m w) (hs : s.size ≤ 281474976710656)
    (hc : ∀ w, Calls Tryd.prog 60 #[.string s, .string dolT] w fun e w' => e = .returned (.tuple #[.string r, .bool b]) ∧ w' = w)
    (hk : ∀ w, Wd m w → Calls Tryd.prog 52 #[.string r, .string dolT] w fun e w' => e = .returned (.tuple #[.string t, .string t2, .bool ends]) ∧ ∃ n, w' = w.drewN n)
    (ht : ∀ w, Calls Tryd.prog 67 #[.string t] w fun e w' => e = .returned (.bool ok) ∧ Below w.heap.size w w')
    (hle : b = true → ends = true → t.size + 2 ≤ s.size) :
    Calls Tryd.prog 57 #[.string s] w fun e w' => e = .returned (.string (if (b && ends && ok) = true then s.extract 0 (t.size + 2) else ⟨#[]⟩)) ∧ Below w.heap.size w w' := by
  have HC := Lib.hid hc
  have HK := Lib.hid hk
  have HT := Lib.hid ht
  clear hc hk ht
  cases b with
  | false =>
    rw [if_neg (by simp)]
    clear hle
    go_enter Tryd.func57, Tryd.ntmps57
    go_wp2_with (first
      | (go_at_call 60; (with_reducible refine (HC.out _).mono ?_); rintro e w1 ⟨rfl, hw⟩; obtain rfl := hw.symm)
      | (go_at_call 52; (with_reducible refine (HK.out _ hm).mono ?_); rintro e w2 ⟨rfl, nq, rfl⟩))
    go_ret
    exact ⟨rfl, below_drewN_ (Below.refl _ _) _⟩
  | true =>
  cases ends with
  | false =>
    rw [if_neg (by simp)]
    clear hle
    go_enter Tryd.func57, Tryd.ntmps57
    go_wp2_with (first
      | (go_at_call 60; (with_reducible refine (HC.out _).mono ?_); rintro e w1 ⟨rfl, hw⟩; obtain rfl := hw.symm)
      | (go_at_call 52; (with_reducible refine (HK.out _ hm).mono ?_); rintro e w2 ⟨rfl, nq, rfl⟩))
    go_ret
    exact ⟨rfl, below_drewN_ (Below.refl _ _) _⟩
  | true =>
  cases ok with
  | false =>
    rw [if_neg (by simp)]
    clear hle
    go_enter Tryd.func57, Tryd.ntmps57
    go_wp2_with (first
      | (go_at_call 60; (with_reducible refine (HC.out _).mono ?_); rintro e w1 ⟨rfl, hw⟩; obtain rfl := hw.symm)
      | (go_at_call 52; (with_reducible refine (HK.out _ hm).mono ?_); rintro e w2 ⟨rfl, nq, rfl⟩)
      | (go_at_call 67; (with_reducible refine (HT.out _).mono ?_); rintro e w3 ⟨rfl, hb3⟩))
    go_ret
    exact ⟨rfl, (below_drewN_ (Below.refl _ _) _).trans (hb3.mono (by simp))⟩
  | true =>
    rw [if_pos (show (true && true && true) = true from rfl)]
    have hl := hle rfl rfl
    clear hle
    obtain ⟨n, hn⟩ : ∃ n, t.size + 2 = n := ⟨_, rfl⟩
    have e1 : IntKind.i64.wrap (1 + (t.size : Int)) = 1 + (t.size : Int) := IntWalk.i64_in _ (by omega)
    have e2 : IntKind.i64.wrap (1 + (t.size : Int) + 1) = (n : Int) := by rw [show 1 + (t.size : Int) + 1 = (n : Int) by omega]; exact IntWalk.i64_in _ (by omega)
    have c0 : (0 : Int) ≤ (n : Int) := by omega
    have c1 : (n : Int) ≤ (s.size : Int) := by omega
    rw [hn]
    clear hn hl hs
    go_enter Tryd.func57, Tryd.ntmps57
    go_wp2_with (first
      | (go_at_call 60; (with_reducible refine (HC.out _).mono ?_); rintro e w1 ⟨rfl, hw⟩; obtain rfl := hw.symm)
      | (go_at_call 52; (with_reducible refine (HK.out _ hm).mono ?_); rintro e w2 ⟨rfl, nq, rfl⟩)
      | (go_at_call 67; (with_reducible refine (HT.out _).mono ?_); rintro e w3 ⟨rfl, hb3⟩))
    go_ret
    exact ⟨rfl, (below_drewN_ (Below.refl _ _) _).trans (hb3.mono (by simp))⟩
theorem dol_core (s mk t t2 : ByteArray) (ends : Bool) (m : Int) (w : World) (hm : Wd m w) (hs : s.size ≤ 4294967296) (hle : mk.size ≤ s.size) (hle2 : ends = true → t.size ≤ s.size)
    (hmk : ∀ w, Wd m w → Calls Tryd.prog 57 #[.string s] w fun e w' => e = .returned (.string mk) ∧ Below w.heap.size w w')
    (hk : ∀ w, Wd m w → Calls Tryd.prog 52 #[.string (s.extract mk.size s.size), .string mk] w fun e w' => e = .returned (.tuple #[.string t, .string t2, .bool ends]) ∧ ∃ n, w' = w.drewN n) :
    Calls Tryd.prog 32 #[.string s] w fun e w' => e = .returned (if mk.toList.isEmpty = true then pcV 0 ⟨#[]⟩ 0 else if ends = false then pcV 0 ⟨#[]⟩ (-1) else pcV 3 t ((mk.size : Int) + t.size + mk.size)) ∧ Below w.heap.size w w' := by
  have HW0 := Lib.hid (hm.below (Own3.new w).bel)
  have HM := Lib.hid hmk
  have HK := Lib.hid hk
  clear hmk hk hm
  cases he : mk.toList.isEmpty with
  | true =>
    rw [if_pos rfl]
    go_enter Tryd.func32, Tryd.ntmps32
    go_wp2_with (first
      | (go_at_call 57; (with_reducible refine (HM.out _ HW0.out).mono ?_); rintro e w1 ⟨rfl, hb1⟩; have F1 := (Own3.new w).step hb1; have HW1 := Lib.hid (HW0.out.below hb1); clear hb1; obtain ⟨hB, hL, k0, k1, k2, f0, f1, f2⟩ := id F1))
    refine bodyPost_ret (v := pcV 0 ⟨#[]⟩ 0) (by simp [results, Tryd.results32, go_sem, k0, k1, k2]) rfl ?_
    refine ⟨rfl, ((hB.setCell ?_ _).setCell ?_ _).setCell ?_ _⟩ <;> exact Nat.le_refl _
  | false =>
    rw [if_neg (by simp)]
    have c0 : (0 : Int) ≤ (mk.size : Int) := by omega
    have c1 : (mk.size : Int) ≤ (s.size : Int) := by omega
    cases ends with
    | false =>
    rw [if_pos rfl]
    go_enter Tryd.func32, Tryd.ntmps32
    go_wp2_with (first
      | (go_at_call 57; (with_reducible refine (HM.out _ HW0.out).mono ?_); rintro e w1 ⟨rfl, hb1⟩; have F1 := (Own3.new w).step hb1; have HW1 := Lib.hid (HW0.out.below hb1); clear hb1; obtain ⟨hB, hL, k0, k1, k2, f0, f1, f2⟩ := id F1)
      | (go_at_call 52; (with_reducible refine (HK.out _ HW1.out).mono ?_); rintro e w2 ⟨rfl, nq, rfl⟩; have F2 := F1.drewN nq; clear hB hL k0 k1 k2 f0 f1 f2; obtain ⟨hB, hL, k0, k1, k2, f0, f1, f2⟩ := id F2))
    refine bodyPost_ret (v := pcV 0 ⟨#[]⟩ (-1)) (by simp [results, Tryd.results32, go_sem, k0, k1, k2]) rfl ?_
    refine ⟨rfl, ((hB.setCell ?_ _).setCell ?_ _).setCell ?_ _⟩ <;> exact Nat.le_refl _
    | true =>
    rw [if_neg (by simp)]
    have ht := hle2 rfl
    have hc := fun w => clone_any t w (by omega)
    have HC := Lib.hid hc
    clear hc hle2
    have e1 : IntKind.i64.wrap ((mk.size : Int) + (t.size : Int)) = (mk.size : Int) + (t.size : Int) := IntWalk.i64_in _ (by omega)
    have e2 : IntKind.i64.wrap ((mk.size : Int) + (t.size : Int) + (mk.size : Int)) = (mk.size : Int) + (t.size : Int) + (mk.size : Int) := IntWalk.i64_in _ (by omega)
    go_enter Tryd.func32, Tryd.ntmps32
    go_wp2_with (first
      | (go_at_call 57; (with_reducible refine (HM.out _ HW0.out).mono ?_); rintro e w1 ⟨rfl, hb1⟩; have F1 := (Own3.new w).step hb1; have HW1 := Lib.hid (HW0.out.below hb1); clear hb1; obtain ⟨hB, hL, k0, k1, k2, f0, f1, f2⟩ := id F1)
      | (go_at_call 52; (with_reducible refine (HK.out _ HW1.out).mono ?_); rintro e w2 ⟨rfl, nq, rfl⟩; have F2 := F1.drewN nq; clear hB hL k0 k1 k2 f0 f1 f2; obtain ⟨hB, hL, k0, k1, k2, f0, f1, f2⟩ := id F2)
      | (go_at_call 20; (with_reducible refine (HC.out _).mono ?_); rintro e w3 ⟨rfl, hb3⟩; have F3 := F2.step hb3; clear hb3 hB hL k0 k1 k2 f0 f1 f2; obtain ⟨hB, hL, k0, k1, k2, f0, f1, f2⟩ := id F3))
    refine bodyPost_ret (v := pcV 3 t ((mk.size : Int) + t.size + mk.size)) (by simp [results, Tryd.results32, go_sem, k0, k1, k2]) rfl ?_
    refine ⟨rfl, ((hB.setCell ?_ _).setCell ?_ _).setCell ?_ _⟩ <;> exact Nat.le_refl _
end Go.Proofs.YtlmgggipkdmdfaaDoor
