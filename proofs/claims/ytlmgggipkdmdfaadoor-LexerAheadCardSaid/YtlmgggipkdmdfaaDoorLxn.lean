/- What package lexer's mark and dollars answer, in plain words. Condition: the word of bytealg; a text's length. -/
import Derived.Test.YtlmgggipkdmdfaaDoorLxm
namespace Go.Proofs.YtlmgggipkdmdfaaDoor
open Go.ChangeShapes Go.WideShapes Go.ChangeAt Go.RowKit
set_option linter.unusedVariables false
set_option linter.unusedSimpArgs false

def cutD (s : ByteArray) : Tx × Tx × Bool := Lib.cut (dolR s).data.toList [36]
def markA (s : ByteArray) : ByteArray := if (hpB s dolT && (cutD s).2.2 && isTagL (cutD s).1) = true then s.extract 0 ((cutD s).1.length + 2) else ⟨#[]⟩
theorem arr_size (l : Tx) : (⟨l.toArray⟩ : ByteArray).size = l.length := by rw [Lib.size_eq]
theorem dolR_size (s : ByteArray) (h : hpB s dolT = true) : (dolR s).size + 1 = s.size := by
  have hle : 1 ≤ s.size := by unfold hpB at h; simp at h; exact h.1
  unfold dolR; rw [if_pos h, ByteArray.size_extract]; omega
theorem dolR_le (s : ByteArray) : (dolR s).size ≤ s.size := by
  unfold dolR; split
  · rw [ByteArray.size_extract]; omega
  · exact Nat.le_refl _
theorem mark_any (s : ByteArray) (m : Int) (w : World) (hs : s.size < 4294967281) (hm : Wd m w) :
    Calls Tryd.prog 57 #[.string s] w fun e w' => e = .returned (.string (markA s)) ∧ Below w.heap.size w w' := by
  have h := mark_core s (dolR s) ⟨(cutD s).1.toArray⟩ ⟨(cutD s).2.1.toArray⟩ (hpB s dolT) (cutD s).2.2 (isTagL (cutD s).1) m w hm (by omega) (fun w => cutp_any s dolT w)
    (fun w hw => Tryd.strings_Cut (dolR s) dolT m w (by have := dolR_le s; omega) hw)
    (fun w => isTag_any ⟨(cutD s).1.toArray⟩ w)
    (fun h1 h2 => by
      have a := dolR_size s h1
      have b := cut_len (dolR s).data.toList [36] h2
      rw [← Lib.size_eq] at b
      have b : (cutD s).1.length + 1 ≤ (dolR s).size := b
      rw [arr_size]; omega)
  rw [arr_size] at h
  exact h
theorem markA_le (s : ByteArray) : (markA s).size ≤ s.size := by
  unfold markA; split
  · rw [ByteArray.size_extract]; omega
  · exact Nat.zero_le _
def cutM (s : ByteArray) : Tx × Tx × Bool := Lib.cut (s.extract (markA s).size s.size).data.toList (markA s).data.toList
def dolS (s : ByteArray) : Value :=
  if (markA s).toList.isEmpty = true then pcV 0 ⟨#[]⟩ 0 else if (cutM s).2.2 = false then pcV 0 ⟨#[]⟩ (-1) else pcV 3 ⟨(cutM s).1.toArray⟩ (((markA s).size : Int) + (⟨(cutM s).1.toArray⟩ : ByteArray).size + (markA s).size)
theorem ext_le (s : ByteArray) (a : Nat) : (s.extract a s.size).size ≤ s.size := by rw [ByteArray.size_extract]; omega
theorem cutM_len (s : ByteArray) (h : (cutM s).2.2 = true) : (⟨(cutM s).1.toArray⟩ : ByteArray).size ≤ s.size := by
  have b := cut_len _ _ h
  rw [arr_size]
  have c : (s.extract (markA s).size s.size).data.toList.length ≤ s.size := by rw [← Lib.size_eq]; exact ext_le s _
  exact Nat.le_trans (Nat.le_trans (Nat.le_add_right _ _) b) c
theorem cutM_call (s : ByteArray) (m : Int) (hs : s.size < 4294967281) (w : World) (hw : Wd m w) : Calls Tryd.prog 52 #[.string (s.extract (markA s).size s.size), .string (markA s)] w fun e w' => e = .returned (.tuple #[.string ⟨(cutM s).1.toArray⟩, .string ⟨(cutM s).2.1.toArray⟩, .bool (cutM s).2.2]) ∧ ∃ n, w' = w.drewN n := by
  have hC : Lib.cut (s.extract (markA s).size s.size).data.toList (markA s).data.toList = cutM s := rfl
  generalize cutM s = C at *
  generalize markA s = M at *
  subst hC
  exact Tryd.strings_Cut (s.extract M.size s.size) M m w (Nat.lt_of_le_of_lt (ext_le s _) hs) hw
theorem dolS_eq (s M : ByteArray) (C : Tx × Tx × Bool) (hM : markA s = M) (hC : cutM s = C) : dolS s = if M.toList.isEmpty = true then pcV 0 ⟨#[]⟩ 0 else if C.2.2 = false then pcV 0 ⟨#[]⟩ (-1) else pcV 3 ⟨C.1.toArray⟩ ((M.size : Int) + (⟨C.1.toArray⟩ : ByteArray).size + M.size) := by
  subst hM hC
  rfl
theorem dol_any (s : ByteArray) (m : Int) (w : World) (hs : s.size < 4294967281) (hm : Wd m w) :
    Calls Tryd.prog 32 #[.string s] w fun e w' => e = .returned (dolS s) ∧ Below w.heap.size w w' := by
  have hs2 : s.size ≤ 4294967296 := by omega
  have hmk := fun w hw => mark_any s m w hs hw
  have hk := fun w hw => cutM_call s m hs w hw
  have hl := cutM_len s
  have hml := markA_le s
  rw [dolS_eq s _ _ rfl rfl]
  exact dol_core s (markA s) ⟨(cutM s).1.toArray⟩ ⟨(cutM s).2.1.toArray⟩ (cutM s).2.2 m w hm hs2 hml hl hmk hk
end Go.Proofs.YtlmgggipkdmdfaaDoor
