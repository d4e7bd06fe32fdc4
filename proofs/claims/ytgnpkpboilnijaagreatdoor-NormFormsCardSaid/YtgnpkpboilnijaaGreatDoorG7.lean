/- What package lexer's isTag, mark, dollars answer. Condition: the word of bytealg; a text's length.
   What package lexer's mark and dollars answer, in plain words. Condition: the word of bytealg; a text's length.
   What package lexer's list of readers holds, and what each of them answers, as one plain function. Condition: the word of bytealg; a text's length, not empty.
   How many bytes package lexer's readers take: none, minus one, or so many as there are. No program. -/
import Derived.Test.YtgnpkpboilnijaaGreatDoorG6
import Derived.WalkMore
import Derived.BigQuiet
import Derived.IntWalk
import Derived.Deep.QuietTactic
set_option linter.unusedSimpArgs false
set_option linter.unusedVariables false
namespace Go.Proofs.YtgnpkpboilnijaaGreatDoor
open Go.ChangeShapes Go.WideShapes Go.ChangeAt Go.RowKit
set_option maxRecDepth 100000
set_option linter.unusedVariables false
set_option linter.unusedSimpArgs false

def isTagL (l : Tx) : Bool := l.isEmpty || (decide (0 < rowL letB l) && decide (rowL tagB l = l.length))
theorem isTag_any (s : ByteArray) (w : World) : Calls Tryz.prog 106 #[.string s] w fun e w' => e = .returned (.bool (isTagL s.data.toList)) ∧ Below w.heap.size w w' := by
  have hr := fun w => row_letter letN letB true (Lib.hid kin_let) s w (Lib.hid (weak_ let_any))
  have hq := fun w => row_tag tagN tagB true (Lib.hid kin_tag) s w (Lib.hid (weak_ tag_any))
  have e0 : isTagL s.data.toList = (s.toList.isEmpty || (decide ((0 : Int) < (rowL letB s.data.toList : Int)) && ((rowL tagB s.data.toList : Int) == (s.size : Int)))) := by
    unfold isTagL
    rw [Lib.toList_data, ← Lib.size_eq]
    congr 1
    rw [Bool.eq_iff_iff]
    simp only [Bool.and_eq_true, decide_eq_true_eq, beq_iff_eq]
    omega
  rw [e0]
  clear e0
  generalize rowL letB s.data.toList = n at *
  generalize rowL tagB s.data.toList = m at *
  have HR := Lib.hid hr
  have HQ := Lib.hid hq
  clear hr hq
  cases h0 : s.toList.isEmpty with
  | true =>
    go_enter Tryz.func106, Tryz.ntmps106
    go_wp2
    go_ret
    exact ⟨rfl, Below.refl _ _⟩
  | false =>
    by_cases hn : (0 : Int) < (n : Int)
    · rw [decide_eq_true hn]
      cases hb : ((m : Int) == (s.size : Int)) with
      | true =>
        go_enter Tryz.func106, Tryz.ntmps106
        go_wp2_with (first
          | (go_at_call 80; (with_reducible refine (HR.out _).mono ?_); rintro e w1 ⟨rfl, hb1⟩)
          | (go_at_call 80; (with_reducible refine (HQ.out _).mono ?_); rintro e w2 ⟨rfl, hb2⟩))
        go_ret
        exact ⟨rfl, hb1.trans (hb2.mono hb1.size)⟩
      | false =>
        go_enter Tryz.func106, Tryz.ntmps106
        go_wp2_with (first
          | (go_at_call 80; (with_reducible refine (HR.out _).mono ?_); rintro e w1 ⟨rfl, hb1⟩)
          | (go_at_call 80; (with_reducible refine (HQ.out _).mono ?_); rintro e w2 ⟨rfl, hb2⟩))
        go_ret
        exact ⟨rfl, hb1.trans (hb2.mono hb1.size)⟩
    · rw [decide_eq_false hn]
      go_enter Tryz.func106, Tryz.ntmps106
      go_wp2_with (first
        | (go_at_call 80; (with_reducible refine (HR.out _).mono ?_); rintro e w1 ⟨rfl, hb1⟩))
      go_ret
      exact ⟨rfl, hb1⟩
theorem index_ge (s sub : Tx) : -1 ≤ Lib.index s sub := by
  induction s with
  | nil => unfold Lib.index; split <;> omega
  | cons b l ih =>
    unfold Lib.index
    split
    · omega
    · split <;> omega
theorem index_len (s sub : Tx) (h : 0 ≤ Lib.index s sub) : (Lib.index s sub).toNat + sub.length ≤ s.length := by
  induction s with
  | nil =>
    unfold Lib.index at h ⊢
    by_cases e : sub.isEmpty
    · rw [if_pos e]; simp at e; subst e; simp
    · rw [if_neg e] at h; omega
  | cons b l ih =>
    unfold Lib.index at h ⊢
    by_cases e : sub.isPrefixOf (b :: l)
    · rw [if_pos e]
      have := (List.isPrefixOf_iff_prefix.1 e).length_le
      simpa using this
    · rw [if_neg e] at h ⊢
      by_cases e2 : (Lib.index l sub == -1) = true
      · rw [if_pos e2] at h; omega
      · rw [if_neg e2] at h ⊢
        have g := index_ge l sub
        have n : Lib.index l sub ≠ -1 := by simpa using e2
        have := ih (by omega)
        rw [List.length_cons]; omega
theorem cut_len (s sep : Tx) (h : (Lib.cut s sep).2.2 = true) : (Lib.cut s sep).1.length + sep.length ≤ s.length := by
  unfold Lib.cut at h ⊢
  by_cases e : 0 ≤ Lib.index s sep
  · rw [if_pos e]
    have := index_len s sep e
    simp; omega
  · rw [if_neg e] at h; cases h
theorem mark_core (s r t t2 : ByteArray) (b ends ok : Bool) (m : Int) (w : World) (hm : Wd m w) (hs : s.size ≤ 281474976710656)
    (hc : ∀ w, Calls Tryz.prog 41 #[.string s, .string dolT] w fun e w' => e = .returned (.tuple #[.string r, .bool b]) ∧ w' = w)
    (hk : ∀ w, Wd m w → Calls Tryz.prog 83 #[.string r, .string dolT] w fun e w' => e = .returned (.tuple #[.string t, .string t2, .bool ends]) ∧ ∃ n, w' = w.drewN n)
    (ht : ∀ w, Calls Tryz.prog 106 #[.string t] w fun e w' => e = .returned (.bool ok) ∧ Below w.heap.size w w')
    (hle : b = true → ends = true → t.size + 2 ≤ s.size) :
    Calls Tryz.prog 88 #[.string s] w fun e w' => e = .returned (.string (if (b && ends && ok) = true then s.extract 0 (t.size + 2) else ⟨#[]⟩)) ∧ Below w.heap.size w w' := by
  have HC := Lib.hid hc
  have HK := Lib.hid hk
  have HT := Lib.hid ht
  clear hc hk ht
  cases b with
  | false =>
    rw [if_neg (by simp)]
    clear hle
    go_enter Tryz.func88, Tryz.ntmps88
    go_wp2_with (first
      | (go_at_call 41; (with_reducible refine (HC.out _).mono ?_); rintro e w1 ⟨rfl, hw⟩; obtain rfl := hw.symm)
      | (go_at_call 83; (with_reducible refine (HK.out _ hm).mono ?_); rintro e w2 ⟨rfl, nq, rfl⟩))
    go_ret
    exact ⟨rfl, below_drewN_ (Below.refl _ _) _⟩
  | true =>
  cases ends with
  | false =>
    rw [if_neg (by simp)]
    clear hle
    go_enter Tryz.func88, Tryz.ntmps88
    go_wp2_with (first
      | (go_at_call 41; (with_reducible refine (HC.out _).mono ?_); rintro e w1 ⟨rfl, hw⟩; obtain rfl := hw.symm)
      | (go_at_call 83; (with_reducible refine (HK.out _ hm).mono ?_); rintro e w2 ⟨rfl, nq, rfl⟩))
    go_ret
    exact ⟨rfl, below_drewN_ (Below.refl _ _) _⟩
  | true =>
  cases ok with
  | false =>
    rw [if_neg (by simp)]
    clear hle
    go_enter Tryz.func88, Tryz.ntmps88
    go_wp2_with (first
      | (go_at_call 41; (with_reducible refine (HC.out _).mono ?_); rintro e w1 ⟨rfl, hw⟩; obtain rfl := hw.symm)
      | (go_at_call 83; (with_reducible refine (HK.out _ hm).mono ?_); rintro e w2 ⟨rfl, nq, rfl⟩)
      | (go_at_call 106; (with_reducible refine (HT.out _).mono ?_); rintro e w3 ⟨rfl, hb3⟩))
    go_ret
    exact ⟨rfl, (below_drewN_ (Below.refl _ _) _).trans (hb3.mono (by simp))⟩
  | true =>
    rw [if_pos (show (true && true && true) = true from rfl)]
    have hl := hle rfl rfl
    clear hle
    obtain ⟨n, hn⟩ : ∃ n, t.size + 2 = n := ⟨_, rfl⟩
    have e1 : IntKind.i64.wrap (1 + (t.size : Int)) = 1 + (t.size : Int) := IntWalk.i64_in _ (by omega)
    have e2 : IntKind.i64.wrap (1 + (t.size : Int) + 1) = (n : Int) := by rw [show 1 + (t.size : Int) + 1 = (n : Int) by omega]; exact IntWalk.i64_in _ (by omega)
    have c0 : (0 : Int) ≤ (n : Int) := by omega
    have c1 : (n : Int) ≤ (s.size : Int) := by omega
    rw [hn]
    clear hn hl hs
    go_enter Tryz.func88, Tryz.ntmps88
    go_wp2_with (first
      | (go_at_call 41; (with_reducible refine (HC.out _).mono ?_); rintro e w1 ⟨rfl, hw⟩; obtain rfl := hw.symm)
      | (go_at_call 83; (with_reducible refine (HK.out _ hm).mono ?_); rintro e w2 ⟨rfl, nq, rfl⟩)
      | (go_at_call 106; (with_reducible refine (HT.out _).mono ?_); rintro e w3 ⟨rfl, hb3⟩))
    go_ret
    exact ⟨rfl, (below_drewN_ (Below.refl _ _) _).trans (hb3.mono (by simp))⟩
theorem dol_core (s mk t t2 : ByteArray) (ends : Bool) (m : Int) (w : World) (hm : Wd m w) (hs : s.size ≤ 4294967296) (hle : mk.size ≤ s.size) (hle2 : ends = true → t.size ≤ s.size)
    (hmk : ∀ w, Wd m w → Calls Tryz.prog 88 #[.string s] w fun e w' => e = .returned (.string mk) ∧ Below w.heap.size w w')
    (hk : ∀ w, Wd m w → Calls Tryz.prog 83 #[.string (s.extract mk.size s.size), .string mk] w fun e w' => e = .returned (.tuple #[.string t, .string t2, .bool ends]) ∧ ∃ n, w' = w.drewN n) :
    Calls Tryz.prog 61 #[.string s] w fun e w' => e = .returned (if mk.toList.isEmpty = true then pcV 0 ⟨#[]⟩ 0 else if ends = false then pcV 0 ⟨#[]⟩ (-1) else pcV 3 t ((mk.size : Int) + t.size + mk.size)) ∧ Below w.heap.size w w' := by
  have HW0 := Lib.hid (hm.below (Own3.new w).bel)
  have HM := Lib.hid hmk
  have HK := Lib.hid hk
  clear hmk hk hm
  cases he : mk.toList.isEmpty with
  | true =>
    rw [if_pos rfl]
    go_enter Tryz.func61, Tryz.ntmps61
    go_wp2_with (first
      | (go_at_call 88; (with_reducible refine (HM.out _ HW0.out).mono ?_); rintro e w1 ⟨rfl, hb1⟩; have F1 := (Own3.new w).step hb1; have HW1 := Lib.hid (HW0.out.below hb1); clear hb1; obtain ⟨hB, hL, k0, k1, k2, f0, f1, f2⟩ := id F1))
    refine bodyPost_ret (v := pcV 0 ⟨#[]⟩ 0) (by simp [results, Tryz.results61, go_sem, k0, k1, k2]) rfl ?_
    refine ⟨rfl, ((hB.setCell ?_ _).setCell ?_ _).setCell ?_ _⟩ <;> exact Nat.le_refl _
  | false =>
    rw [if_neg (by simp)]
    have c0 : (0 : Int) ≤ (mk.size : Int) := by omega
    have c1 : (mk.size : Int) ≤ (s.size : Int) := by omega
    cases ends with
    | false =>
    rw [if_pos rfl]
    go_enter Tryz.func61, Tryz.ntmps61
    go_wp2_with (first
      | (go_at_call 88; (with_reducible refine (HM.out _ HW0.out).mono ?_); rintro e w1 ⟨rfl, hb1⟩; have F1 := (Own3.new w).step hb1; have HW1 := Lib.hid (HW0.out.below hb1); clear hb1; obtain ⟨hB, hL, k0, k1, k2, f0, f1, f2⟩ := id F1)
      | (go_at_call 83; (with_reducible refine (HK.out _ HW1.out).mono ?_); rintro e w2 ⟨rfl, nq, rfl⟩; have F2 := F1.drewN nq; clear hB hL k0 k1 k2 f0 f1 f2; obtain ⟨hB, hL, k0, k1, k2, f0, f1, f2⟩ := id F2))
    refine bodyPost_ret (v := pcV 0 ⟨#[]⟩ (-1)) (by simp [results, Tryz.results61, go_sem, k0, k1, k2]) rfl ?_
    refine ⟨rfl, ((hB.setCell ?_ _).setCell ?_ _).setCell ?_ _⟩ <;> exact Nat.le_refl _
    | true =>
    rw [if_neg (by simp)]
    have ht := hle2 rfl
    have hc := fun w => clone_any t w (by omega)
    have HC := Lib.hid hc
    clear hc hle2
    have e1 : IntKind.i64.wrap ((mk.size : Int) + (t.size : Int)) = (mk.size : Int) + (t.size : Int) := IntWalk.i64_in _ (by omega)
    have e2 : IntKind.i64.wrap ((mk.size : Int) + (t.size : Int) + (mk.size : Int)) = (mk.size : Int) + (t.size : Int) + (mk.size : Int) := IntWalk.i64_in _ (by omega)
    go_enter Tryz.func61, Tryz.ntmps61
    go_wp2_with (first
      | (go_at_call 88; (with_reducible refine (HM.out _ HW0.out).mono ?_); rintro e w1 ⟨rfl, hb1⟩; have F1 := (Own3.new w).step hb1; have HW1 := Lib.hid (HW0.out.below hb1); clear hb1; obtain ⟨hB, hL, k0, k1, k2, f0, f1, f2⟩ := id F1)
      | (go_at_call 83; (with_reducible refine (HK.out _ HW1.out).mono ?_); rintro e w2 ⟨rfl, nq, rfl⟩; have F2 := F1.drewN nq; clear hB hL k0 k1 k2 f0 f1 f2; obtain ⟨hB, hL, k0, k1, k2, f0, f1, f2⟩ := id F2)
      | (go_at_call 27; (with_reducible refine (HC.out _).mono ?_); rintro e w3 ⟨rfl, hb3⟩; have F3 := F2.step hb3; clear hb3 hB hL k0 k1 k2 f0 f1 f2; obtain ⟨hB, hL, k0, k1, k2, f0, f1, f2⟩ := id F3))
    refine bodyPost_ret (v := pcV 3 t ((mk.size : Int) + t.size + mk.size)) (by simp [results, Tryz.results61, go_sem, k0, k1, k2]) rfl ?_
    refine ⟨rfl, ((hB.setCell ?_ _).setCell ?_ _).setCell ?_ _⟩ <;> exact Nat.le_refl _
end Go.Proofs.YtgnpkpboilnijaaGreatDoor
namespace Go.Proofs.YtgnpkpboilnijaaGreatDoor
open Go.ChangeShapes Go.WideShapes Go.ChangeAt Go.RowKit
set_option maxRecDepth 100000
set_option linter.unusedVariables false
set_option linter.unusedSimpArgs false

def cutD (s : ByteArray) : Tx × Tx × Bool := Lib.cut (dolR s).data.toList [36]
def markA (s : ByteArray) : ByteArray := if (hpB s dolT && (cutD s).2.2 && isTagL (cutD s).1) = true then s.extract 0 ((cutD s).1.length + 2) else ⟨#[]⟩
theorem arr_size (l : Tx) : (⟨l.toArray⟩ : ByteArray).size = l.length := by rw [Lib.size_eq]
theorem dolR_size (s : ByteArray) (h : hpB s dolT = true) : (dolR s).size + 1 = s.size := by
  have hle : 1 ≤ s.size := by unfold hpB at h; simp at h; exact h.1
  unfold dolR; rw [if_pos h, ByteArray.size_extract]; omega
theorem dolR_le (s : ByteArray) : (dolR s).size ≤ s.size := by
  unfold dolR; split
  · rw [ByteArray.size_extract]; omega
  · exact Nat.le_refl _
theorem mark_any (s : ByteArray) (m : Int) (w : World) (hs : s.size < 4294967281) (hm : Wd m w) :
    Calls Tryz.prog 88 #[.string s] w fun e w' => e = .returned (.string (markA s)) ∧ Below w.heap.size w w' := by
  have h := mark_core s (dolR s) ⟨(cutD s).1.toArray⟩ ⟨(cutD s).2.1.toArray⟩ (hpB s dolT) (cutD s).2.2 (isTagL (cutD s).1) m w hm (by omega) (fun w => cutp_any s dolT w)
    (fun w hw => Tryz.strings_Cut (dolR s) dolT m w (by have := dolR_le s; omega) hw)
    (fun w => isTag_any ⟨(cutD s).1.toArray⟩ w)
    (fun h1 h2 => by
      have a := dolR_size s h1
      have b := cut_len (dolR s).data.toList [36] h2
      rw [← Lib.size_eq] at b
      have b : (cutD s).1.length + 1 ≤ (dolR s).size := b
      rw [arr_size]; omega)
  rw [arr_size] at h
  exact h
theorem markA_le (s : ByteArray) : (markA s).size ≤ s.size := by
  unfold markA; split
  · rw [ByteArray.size_extract]; omega
  · exact Nat.zero_le _
def cutM (s : ByteArray) : Tx × Tx × Bool := Lib.cut (s.extract (markA s).size s.size).data.toList (markA s).data.toList
def dolS (s : ByteArray) : Value :=
  if (markA s).toList.isEmpty = true then pcV 0 ⟨#[]⟩ 0 else if (cutM s).2.2 = false then pcV 0 ⟨#[]⟩ (-1) else pcV 3 ⟨(cutM s).1.toArray⟩ (((markA s).size : Int) + (⟨(cutM s).1.toArray⟩ : ByteArray).size + (markA s).size)
theorem ext_le (s : ByteArray) (a : Nat) : (s.extract a s.size).size ≤ s.size := by rw [ByteArray.size_extract]; omega
theorem cutM_len (s : ByteArray) (h : (cutM s).2.2 = true) : (⟨(cutM s).1.toArray⟩ : ByteArray).size ≤ s.size := by
  have b := cut_len _ _ h
  rw [arr_size]
  have c : (s.extract (markA s).size s.size).data.toList.length ≤ s.size := by rw [← Lib.size_eq]; exact ext_le s _
  exact Nat.le_trans (Nat.le_trans (Nat.le_add_right _ _) b) c
theorem cutM_call (s : ByteArray) (m : Int) (hs : s.size < 4294967281) (w : World) (hw : Wd m w) : Calls Tryz.prog 83 #[.string (s.extract (markA s).size s.size), .string (markA s)] w fun e w' => e = .returned (.tuple #[.string ⟨(cutM s).1.toArray⟩, .string ⟨(cutM s).2.1.toArray⟩, .bool (cutM s).2.2]) ∧ ∃ n, w' = w.drewN n := by
  have hC : Lib.cut (s.extract (markA s).size s.size).data.toList (markA s).data.toList = cutM s := rfl
  generalize cutM s = C at *
  generalize markA s = M at *
  subst hC
  exact Tryz.strings_Cut (s.extract M.size s.size) M m w (Nat.lt_of_le_of_lt (ext_le s _) hs) hw
theorem dolS_eq (s M : ByteArray) (C : Tx × Tx × Bool) (hM : markA s = M) (hC : cutM s = C) : dolS s = if M.toList.isEmpty = true then pcV 0 ⟨#[]⟩ 0 else if C.2.2 = false then pcV 0 ⟨#[]⟩ (-1) else pcV 3 ⟨C.1.toArray⟩ ((M.size : Int) + (⟨C.1.toArray⟩ : ByteArray).size + M.size) := by
  subst hM hC
  rfl
theorem dol_any (s : ByteArray) (m : Int) (w : World) (hs : s.size < 4294967281) (hm : Wd m w) :
    Calls Tryz.prog 61 #[.string s] w fun e w' => e = .returned (dolS s) ∧ Below w.heap.size w w' := by
  have hs2 : s.size ≤ 4294967296 := by omega
  have hmk := fun w hw => mark_any s m w hs hw
  have hk := fun w hw => cutM_call s m hs w hw
  have hl := cutM_len s
  have hml := markA_le s
  rw [dolS_eq s _ _ rfl rfl]
  exact dol_core s (markA s) ⟨(cutM s).1.toArray⟩ ⟨(cutM s).2.1.toArray⟩ (cutM s).2.2 m w hm hs2 hml hl hmk hk
end Go.Proofs.YtgnpkpboilnijaaGreatDoor
namespace Go.Proofs.YtgnpkpboilnijaaGreatDoor
open Go.ChangeShapes Go.WideShapes Go.ChangeAt Go.RowKit
set_option maxRecDepth 100000
set_option linter.unusedVariables false
set_option linter.unusedSimpArgs false

abbrev Pc : Type := Int × ByteArray × Int
def pc0 : Pc := (0, ⟨#[]⟩, 0)
def pcW (p : Pc) : Value := pcV p.1 p.2.1 p.2.2
def lineP (s : ByteArray) : Pc := (0, ⟨#[]⟩, if hpB s dashT = true then ((lineA s).size : Int) else 0)
def remP (s : ByteArray) : Pc := if hpB s opnT = true then (0, ⟨#[]⟩, remI ((remL 1 (s.data.toList.drop 2)).map (· + 2))) else pc0
def wordP (s : ByteArray) : Pc := if rowL letB s.data.toList = 0 then pc0 else (1, smallA (s.extract 0 (rowL wordB s.data.toList)), (rowL wordB s.data.toList : Nat))
def betP (k : Int) (o : Option (Tx × Nat)) : Pc := match o with
  | some p => (k, ⟨p.1.toArray⟩, (p.2 : Int))
  | none => (0, ⟨#[]⟩, -1)
def quoP (q : UInt8) (k : Int) (s : ByteArray) : Pc := match s.data.toList with
  | [] => pc0
  | c :: r => if c = q then betP k ((betL q r).map (fun p => (p.1, p.2 + 1))) else pc0
def dolP (s : ByteArray) : Pc := if (markA s).toList.isEmpty = true then pc0 else if (cutM s).2.2 = false then (0, ⟨#[]⟩, -1) else (3, ⟨(cutM s).1.toArray⟩, ((markA s).size : Int) + (⟨(cutM s).1.toArray⟩ : ByteArray).size + (markA s).size)
def numP (s : ByteArray) : Pc := if rowL digB s.data.toList = 0 then pc0 else (4, s.extract 0 (rowL numB s.data.toList), (rowL numB s.data.toList : Nat))
def parP (s : ByteArray) : Pc := if hpB s dolT = false ∨ parN s = 0 then pc0 else (5, s.extract 0 (parN s + 1), ((parN s + 1 : Nat) : Int))
def signP (s : ByteArray) : Pc := match s.data.toList with
  | [] => pc0
  | c :: _ => if signI c < 0 then pc0 else (5, s.extract 0 1, 1)
/-- what the reader of each place answers -/
def rdP (i : Nat) (s : ByteArray) : Pc := match i with
  | 0 => (0, ⟨#[]⟩, (rowL fiveQ s.data.toList : Nat))
  | 1 => lineP s
  | 2 => remP s
  | 3 => wordP s
  | 4 => quoP 34 2 s
  | 5 => quoP 39 3 s
  | 6 => dolP s
  | 7 => numP s
  | 8 => parP s
  | _ => signP s
def rdF (i : Nat) : FuncId := match i with
  | 0 => 55 | 1 => 56 | 2 => 57 | 3 => 58 | 4 => 59 | 5 => 60 | 6 => 61 | 7 => 62 | 8 => 63 | _ => 64
theorem rd_call (i : Nat) (hi : i < 10) (s : ByteArray) (h : 0 < s.size) (hs : s.size < 4294967281) (m : Int) (w : World) (hm : Wd m w) :
    Calls Tryz.prog (rdF i) #[.string s] w fun e w' => e = .returned (pcW (rdP i s)) ∧ Below w.heap.size w w' := by
  have hs2 : s.size ≤ 281474976710656 := Nat.le_trans (Nat.le_of_lt hs) (by decide)
  have hs3 : s.size ≤ 4294967296 := Nat.le_trans (Nat.le_of_lt hs) (by decide)
  match i, hi with
  | 0, _ => exact gap_any s w
  | 1, _ => exact line_any s m w hs hm
  | 2, _ =>
    show Calls Tryz.prog 57 #[.string s] w fun e w' => e = .returned (pcW (remP s)) ∧ Below w.heap.size w w'
    unfold remP
    cases hb : hpB s opnT with
    | true => rw [if_pos rfl]; exact remark_yes s w hs2 hb _ rfl
    | false => rw [if_neg (by simp)]; exact remark_no s w hb
  | 3, _ =>
    show Calls Tryz.prog 58 #[.string s] w fun e w' => e = .returned (pcW (wordP s)) ∧ Below w.heap.size w w'
    unfold wordP
    by_cases hb : rowL letB s.data.toList = 0
    · rw [if_pos hb]; exact word_no s w hb
    · rw [if_neg hb]; exact word_yes s w hs2 hb
  | 4, _ =>
    have e : pcW (rdP 4 s) = quoS 34 2 s := by
      show pcW (quoP 34 2 s) = _
      unfold quoP quoS
      cases s.data.toList with
      | nil => rfl
      | cons c r =>
        simp only
        split
        · cases betL 34 r <;> rfl
        · rfl
    rw [e]; exact quoted_any s w hs3 h
  | 5, _ =>
    have e : pcW (rdP 5 s) = quoS 39 3 s := by
      show pcW (quoP 39 3 s) = _
      unfold quoP quoS
      cases s.data.toList with
      | nil => rfl
      | cons c r =>
        simp only
        split
        · cases betL 39 r <;> rfl
        · rfl
    rw [e]; exact str_any s w hs3 h
  | 6, _ =>
    have e : pcW (rdP 6 s) = dolS s := by
      show pcW (dolP s) = _
      unfold dolP dolS
      split
      · rfl
      · split <;> rfl
    rw [e]; exact dol_any s m w hs hm
  | 7, _ =>
    show Calls Tryz.prog 62 #[.string s] w fun e w' => e = .returned (pcW (numP s)) ∧ Below w.heap.size w w'
    unfold numP
    by_cases hb : rowL digB s.data.toList = 0
    · rw [if_pos hb]; exact num_no s w hb
    · rw [if_neg hb]; exact num_yes s w hs2 hb
  | 8, _ =>
    have p := param_any s w hs2
    have e : pcW (rdP 8 s) = if hpB s dolT = false ∨ parN s = 0 then pcV 0 ⟨#[]⟩ 0 else pcV 5 (s.extract 0 (parN s + 1)) ((parN s + 1 : Nat) : Int) := by
      show pcW (parP s) = _
      unfold parP
      split <;> rfl
    rw [e]; exact p
  | 9, _ =>
    have p := sign_any s h w
    have hd := List.drop_eq_getElem_cons (show 0 < s.data.toList.length by rw [← Lib.size_eq]; exact h)
    rw [List.drop_zero] at hd
    have hda : s.data.toList[0]'(by rw [← Lib.size_eq]; exact h) = s[0]'h := rfl
    rw [hda] at hd
    have e : pcW (rdP 9 s) = if signI (s[0]'h) < 0 then pcV 0 ⟨#[]⟩ 0 else pcV 5 (s.extract 0 1) 1 := by
      show pcW (signP s) = _
      unfold signP
      rw [hd]
      simp only
      split <;> rfl
    rw [e]; exact p
theorem rd_enter (i : Nat) (hi : i < 10) (args : Array Value) (w : World) : Sem.run Tryz.prog (callFunc (rdF i) args) w = .ok (.enter (rdF i) args) w := by
  match i, hi with
  | 0, _ => show Sem.run Tryz.prog (callFunc 55 args) w = _; go_simp; rfl
  | 1, _ => show Sem.run Tryz.prog (callFunc 56 args) w = _; go_simp; rfl
  | 2, _ => show Sem.run Tryz.prog (callFunc 57 args) w = _; go_simp; rfl
  | 3, _ => show Sem.run Tryz.prog (callFunc 58 args) w = _; go_simp; rfl
  | 4, _ => show Sem.run Tryz.prog (callFunc 59 args) w = _; go_simp; rfl
  | 5, _ => show Sem.run Tryz.prog (callFunc 60 args) w = _; go_simp; rfl
  | 6, _ => show Sem.run Tryz.prog (callFunc 61 args) w = _; go_simp; rfl
  | 7, _ => show Sem.run Tryz.prog (callFunc 62 args) w = _; go_simp; rfl
  | 8, _ => show Sem.run Tryz.prog (callFunc 63 args) w = _; go_simp; rfl
  | 9, _ => show Sem.run Tryz.prog (callFunc 64 args) w = _; go_simp; rfl
def rdRow : Array Value := ((List.range 10).map (fun i => Value.func (.func (rdF i)) #[] #[])).toArray
theorem readers_any (w : World) : Calls Tryz.prog 31 #[] w fun e w' => e = .returned (.slice (some ⟨w.heap.size, 0, none⟩) 10 10) ∧ w' = w.alloc (.cells rdRow 53) := by
  go_enter Tryz.func31, Tryz.ntmps31
  go_wp2
  go_ret
  exact ⟨rfl, rfl⟩
end Go.Proofs.YtgnpkpboilnijaaGreatDoor
namespace Go.Proofs.YtgnpkpboilnijaaGreatDoor
open Go.ChangeShapes Go.WideShapes Go.ChangeAt Go.RowKit
set_option maxRecDepth 100000
set_option linter.unusedVariables false
set_option linter.unusedSimpArgs false

def Sized (z : Int) (n : Nat) : Prop := z = 0 ∨ z = -1 ∨ (1 ≤ z ∧ z ≤ (n : Int))
theorem sized_nat (k n : Nat) (h : k ≤ n) : Sized (k : Int) n := by unfold Sized; omega
theorem sized_row (p : UInt8 → Bool) (s : ByteArray) : Sized (rowL p s.data.toList : Nat) s.size := sized_nat _ _ (by rw [Lib.size_eq]; exact rowL_le p _)
theorem cut_le (s sep : Tx) : (Lib.cut s sep).1.length ≤ s.length := by
  unfold Lib.cut
  split
  · simp; omega
  · exact Nat.le_refl _
theorem remL_le (d : Nat) (l : Tx) : ∀ n, remL d l = some n → n ≤ l.length := by
  fun_induction remL d l with
  | case1 l => intro n h; simp at h; omega
  | case2 d => intro n h; simp at h
  | case3 d c r hc ih =>
    intro n h
    rw [Option.map_eq_some_iff] at h
    obtain ⟨k, hk, rfl⟩ := h
    have := ih k hk
    have h2 := congrArg List.length hc
    rw [List.length_drop] at this
    simp at h2 ⊢
    omega
  | case4 d c r h1 hc ih =>
    intro n h
    rw [Option.map_eq_some_iff] at h
    obtain ⟨k, hk, rfl⟩ := h
    have := ih k hk
    have h2 := congrArg List.length hc
    rw [List.length_drop] at this
    simp at h2 ⊢
    omega
  | case5 d c r h1 h2 ih =>
    intro n h
    rw [Option.map_eq_some_iff] at h
    obtain ⟨k, hk, rfl⟩ := h
    have := ih k hk
    simp; omega
theorem betL_le (q : UInt8) (l : Tx) : ∀ p, betL q l = some p → p.2 ≤ l.length := by
  intro p
  induction hn : l.length using Nat.strongRecOn generalizing l p with
  | _ n ih =>
    intro h
    cases l with
    | nil => cases h
    | cons c r =>
      rw [betL_cons] at h
      split at h
      · cases r with
        | nil => simp at h; subst h; simp at hn ⊢; omega
        | cons d r2 =>
          simp only at h
          split at h
          · rw [Option.map_eq_some_iff] at h
            obtain ⟨k, hk, rfl⟩ := h
            have := ih r2.length (by simp at hn; omega) r2 k rfl hk
            simp at hn ⊢; omega
          · simp at h; subst h; simp at hn ⊢; omega
      · rw [Option.map_eq_some_iff] at h
        obtain ⟨k, hk, rfl⟩ := h
        have := ih r.length (by simp at hn; omega) r k rfl hk
        simp at hn ⊢; omega
theorem sized_quo (q : UInt8) (k : Int) (s : ByteArray) : Sized (quoP q k s).2.2 s.size := by
  rw [Lib.size_eq]
  unfold quoP
  cases s.data.toList with
  | nil => exact .inl rfl
  | cons c r =>
    simp only
    split
    · cases hb : betL q r with
      | none => exact .inr (.inl rfl)
      | some p =>
        have := betL_le q r p hb
        refine sized_nat (p.2 + 1) _ ?_
        rw [List.length_cons]; omega
    · exact .inl rfl
theorem cut_dol (s M : ByteArray) (C : Tx × Tx × Bool) (hC : Lib.cut (s.extract M.size s.size).data.toList M.data.toList = C) (hb : C.2.2 = true) : C.1.length + M.size ≤ s.size - M.size := by
  have c : (s.extract M.size s.size).data.toList.length = s.size - M.size := by rw [ext_list, List.length_drop, ← Lib.size_eq]
  have b := cut_len (s.extract M.size s.size).data.toList M.data.toList (by rw [hC]; exact hb)
  rw [c, hC, ← Lib.size_eq] at b
  exact b
theorem sized_dol (s : ByteArray) : Sized (dolP s).2.2 s.size := by
  unfold dolP
  split
  · exact .inl rfl
  · split
    · exact .inr (.inl rfl)
    · rename_i h1 h2
      have hb : (cutM s).2.2 = true := by simpa using h2
      have e := cut_dol s (markA s) (cutM s) rfl hb
      have hm := markA_le s
      refine sized_nat ((markA s).size + (⟨(cutM s).1.toArray⟩ : ByteArray).size + (markA s).size) _ ?_
      rw [arr_size (cutM s).1]
      generalize (cutM s).1.length = x at *
      generalize (markA s).size = y at *
      omega
theorem rd_sized (i : Nat) (s : ByteArray) (h : 0 < s.size) : Sized (rdP i s).2.2 s.size := by
  match i with
  | 0 => exact sized_row _ s
  | 1 =>
    show Sized (lineP s).2.2 s.size
    unfold lineP
    simp only
    split
    · refine sized_nat _ _ ?_
      unfold lineA
      rw [arr_size, Lib.size_eq]
      exact cut_le _ _
    · exact .inl rfl
  | 2 =>
    show Sized (remP s).2.2 s.size
    unfold remP
    split
    · rename_i hb
      have h2 : 2 ≤ s.size := by unfold hpB at hb; simp at hb; exact hb.1
      simp only
      cases hr : remL 1 (s.data.toList.drop 2) with
      | none => exact .inr (.inl rfl)
      | some n =>
        have := remL_le _ _ n hr
        rw [List.length_drop, ← Lib.size_eq] at this
        exact sized_nat (n + 2) _ (by omega)
    · exact .inl rfl
  | 3 =>
    show Sized (wordP s).2.2 s.size
    unfold wordP
    split
    · exact .inl rfl
    · exact sized_row _ s
  | 4 => exact sized_quo _ _ s
  | 5 => exact sized_quo _ _ s
  | 6 => exact sized_dol s
  | 7 =>
    show Sized (numP s).2.2 s.size
    unfold numP
    split
    · exact .inl rfl
    · exact sized_row _ s
  | 8 =>
    show Sized (parP s).2.2 s.size
    unfold parP
    split
    · exact .inl rfl
    · rename_i hb
      have h1 : hpB s dolT = true := by
        cases hc : hpB s dolT with
        | true => rfl
        | false => exact absurd (.inl hc) hb
      have a := dolR_size s h1
      have b : parN s ≤ (dolR s).size := by rw [Lib.size_eq]; exact rowL_le _ _
      refine sized_nat (parN s + 1) _ ?_
      generalize parN s = x at *
      generalize (dolR s).size = y at *
      omega
  | n + 9 =>
    show Sized (signP s).2.2 s.size
    unfold signP
    split
    · exact .inl rfl
    · split
      · exact .inl rfl
      · exact sized_nat 1 _ h
end Go.Proofs.YtgnpkpboilnijaaGreatDoor
