/- How many bytes package lexer's readers take: none, minus one, or so many as there are. No program. -/
import Derived.Test.YtlmgggipkdmdfaaDoorLxo
namespace Go.Proofs.YtlmgggipkdmdfaaDoor
open Go.ChangeShapes Go.WideShapes Go.ChangeAt Go.RowKit
set_option linter.unusedVariables false
set_option linter.unusedSimpArgs false

def Sized (z : Int) (n : Nat) : Prop := z = 0 ∨ z = -1 ∨ (1 ≤ z ∧ z ≤ (n : Int))
theorem sized_nat (k n : Nat) (h : k ≤ n) : Sized (k : Int) n := by unfold Sized; omega
theorem sized_row (p : UInt8 → Bool) (s : ByteArray) : Sized (rowL p s.data.toList : Nat) s.size := sized_nat _ _ (by rw [Lib.size_eq]; exact rowL_le p _)
theorem cut_le (s sep : Tx) : (Lib.cut s sep).1.length ≤ s.length := by
  unfold Lib.cut
  split
  · simp; omega
  · exact Nat.le_refl _
theorem remL_le (d : Nat) (l : Tx) : ∀ n, remL d l = some n → n ≤ l.length := by
  fun_induction remL d l with
  | case1 l => intro n h; simp at h; omega
  | case2 d => intro n h; simp at h
  | case3 d c r hc ih =>
    intro n h
    rw [Option.map_eq_some_iff] at h
    obtain ⟨k, hk, rfl⟩ := h
    have := ih k hk
    have h2 := congrArg List.length hc
    rw [List.length_drop] at this
    simp at h2 ⊢
    omega
  | case4 d c r h1 hc ih =>
    intro n h
    rw [Option.map_eq_some_iff] at h
    obtain ⟨k, hk, rfl⟩ := h
    have := ih k hk
    have h2 := congrArg List.length hc
    rw [List.length_drop] at this
    simp at h2 ⊢
    omega
  | case5 d c r h1 h2 ih =>
    intro n h
    rw [Option.map_eq_some_iff] at h
    obtain ⟨k, hk, rfl⟩ := h
    have := ih k hk
    simp; omega
theorem betL_le (q : UInt8) (l : Tx) : ∀ p, betL q l = some p → p.2 ≤ l.length := by
  intro p
  induction hn : l.length using Nat.strongRecOn generalizing l p with
  | _ n ih =>
    intro h
    cases l with
    | nil => cases h
    | cons c r =>
      rw [betL_cons] at h
      split at h
      · cases r with
        | nil => simp at h; subst h; simp at hn ⊢; omega
        | cons d r2 =>
          simp only at h
          split at h
          · rw [Option.map_eq_some_iff] at h
            obtain ⟨k, hk, rfl⟩ := h
            have := ih r2.length (by simp at hn; omega) r2 k rfl hk
            simp at hn ⊢; omega
          · simp at h; subst h; simp at hn ⊢; omega
      · rw [Option.map_eq_some_iff] at h
        obtain ⟨k, hk, rfl⟩ := h
        have := ih r.length (by simp at hn; omega) r k rfl hk
        simp at hn ⊢; omega
theorem sized_quo (q : UInt8) (k : Int) (s : ByteArray) : Sized (quoP q k s).2.2 s.size := by
  rw [Lib.size_eq]
  unfold quoP
  cases s.data.toList with
  | nil => exact .inl rfl
  | cons c r =>
    simp only
    split
    · cases hb : betL q r with
      | none => exact .inr (.inl rfl)
      | some p =>
        have := betL_le q r p hb
        refine sized_nat (p.2 + 1) _ ?_
        rw [List.length_cons]; omega
    · exact .inl rfl
theorem cut_dol (s M : ByteArray) (C : Tx × Tx × Bool) (hC : Lib.cut (s.extract M.size s.size).data.toList M.data.toList = C) (hb : C.2.2 = true) : C.1.length + M.size ≤ s.size - M.size := by
  have c : (s.extract M.size s.size).data.toList.length = s.size - M.size := by rw [ext_list, List.length_drop, ← Lib.size_eq]
  have b := cut_len (s.extract M.size s.size).data.toList M.data.toList (by rw [hC]; exact hb)
  rw [c, hC, ← Lib.size_eq] at b
  exact b
theorem sized_dol (s : ByteArray) : Sized (dolP s).2.2 s.size := by
  unfold dolP
  split
  · exact .inl rfl
  · split
    · exact .inr (.inl rfl)
    · rename_i h1 h2
      have hb : (cutM s).2.2 = true := by simpa using h2
      have e := cut_dol s (markA s) (cutM s) rfl hb
      have hm := markA_le s
      refine sized_nat ((markA s).size + (⟨(cutM s).1.toArray⟩ : ByteArray).size + (markA s).size) _ ?_
      rw [arr_size (cutM s).1]
      generalize (cutM s).1.length = x at *
      generalize (markA s).size = y at *
      omega
theorem rd_sized (i : Nat) (s : ByteArray) (h : 0 < s.size) : Sized (rdP i s).2.2 s.size := by
  match i with
  | 0 => exact sized_row _ s
  | 1 =>
    show Sized (lineP s).2.2 s.size
    unfold lineP
    simp only
    split
    · refine sized_nat _ _ ?_
      unfold lineA
      rw [arr_size, Lib.size_eq]
      exact cut_le _ _
    · exact .inl rfl
  | 2 =>
    show Sized (remP s).2.2 s.size
    unfold remP
    split
    · rename_i hb
      have h2 : 2 ≤ s.size := by unfold hpB at hb; simp at hb; exact hb.1
      simp only
      cases hr : remL 1 (s.data.toList.drop 2) with
      | none => exact .inr (.inl rfl)
      | some n =>
        have := remL_le _ _ n hr
        rw [List.length_drop, ← Lib.size_eq] at this
        exact sized_nat (n + 2) _ (by omega)
    · exact .inl rfl
  | 3 =>
    show Sized (wordP s).2.2 s.size
    unfold wordP
    split
    · exact .inl rfl
    · exact sized_row _ s
  | 4 => exact sized_quo _ _ s
  | 5 => exact sized_quo _ _ s
  | 6 => exact sized_dol s
  | 7 =>
    show Sized (numP s).2.2 s.size
    unfold numP
    split
    · exact .inl rfl
    · exact sized_row _ s
  | 8 =>
    show Sized (parP s).2.2 s.size
    unfold parP
    split
    · exact .inl rfl
    · rename_i hb
      have h1 : hpB s dolT = true := by
        cases hc : hpB s dolT with
        | true => rfl
        | false => exact absurd (.inl hc) hb
      have a := dolR_size s h1
      have b : parN s ≤ (dolR s).size := by rw [Lib.size_eq]; exact rowL_le _ _
      refine sized_nat (parN s + 1) _ ?_
      generalize parN s = x at *
      generalize (dolR s).size = y at *
      omega
  | n + 9 =>
    show Sized (signP s).2.2 s.size
    unfold signP
    split
    · exact .inl rfl
    · split
      · exact .inl rfl
      · exact sized_nat 1 _ h
end Go.Proofs.YtlmgggipkdmdfaaDoor
