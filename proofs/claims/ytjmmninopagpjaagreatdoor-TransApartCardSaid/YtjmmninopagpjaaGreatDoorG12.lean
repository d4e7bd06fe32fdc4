/- Lzd Lze Lzf Lzg -/
import Derived.Test.YtjmmninopagpjaaGreatDoorG11
import Derived.Test.YtjmmninopagpjaaGreatDoorG1
set_option linter.unusedSimpArgs false
set_option linter.unusedVariables false
namespace Go.Proofs.YtjmmninopagpjaaGreatDoor
open Go.ChangeShapes Go.WideShapes Go.ChangeAt Go.RowKit
set_option maxRecDepth 100000
set_option linter.unusedVariables false
set_option linter.unusedSimpArgs false


def quoAt (s : ByteArray) (a : Nat) (q : UInt8) : Option (Tx × Nat) := (betL q (s.data.toList.drop (a + 1))).map (fun p => (p.1,p.2 + (a + 1)))
theorem drop_nil (s : ByteArray) (a : Nat) (h : ¬ a < s.size) : s.data.toList.drop a = [] := List.drop_eq_nil_of_le (by have : s.size = s.data.toList.length := rfl; omega)

def tagL (l : Tx) : Nat := if rowL letB l = 0 then 0 else rowL tagB l
def tagAt (s : ByteArray) (a : Nat) : Int :=
 if (s.data.toList.drop (a + 1 + tagL (s.data.toList.drop (a + 1)))).take 1 = [36] then ((a + 1 + tagL (s.data.toList.drop (a + 1)) + 1 : Nat) : Int) else -1
theorem let_tag (c : UInt8) (h : letB c = true) : tagB c = true := by
 show tagN (c.toNat : Int) = true
 have : letN (c.toNat : Int) = true := h
 unfold tagN
 rw [this]; rfl
theorem tagL_cons (c : UInt8) (r : Tx) : tagL (c :: r) = if letB c = true then rowL tagB r + 1 else 0 := by
 unfold tagL
 rw [rowL_cons letB]
 by_cases h : letB c = true
 ·rw [if_pos h,if_pos h,if_neg (by omega),rowL_cons,if_pos (let_tag c h)]
 ·rw [if_neg h,if_neg h,if_pos rfl]
theorem tagL_le (l : Tx) : tagL l ≤ l.length := by
 unfold tagL
 split
 ·omega
 ·exact rowL_le _ _

def dolAt (s : ByteArray) (a t : Nat) : Option (Tx × Nat) :=
 if 0 ≤ Lib.index (s.data.toList.drop t) (s.extract a t).data.toList then
  some ((s.data.toList.drop t).take (Lib.index (s.data.toList.drop t) (s.extract a t).data.toList).toNat,t + (Lib.index (s.data.toList.drop t) (s.extract a t).data.toList).toNat + (t - a)) else none
theorem idx_cons (b : UInt8) (l m : Tx) : Lib.index (b :: l) m = if m.isPrefixOf (b :: l) = true then 0 else if Lib.index l m = -1 then -1 else Lib.index l m + 1 := by
 rw [Lib.index]
 by_cases h : m.isPrefixOf (b :: l) = true
 ·rw [if_pos h,if_pos h]
 ·rw [if_neg h,if_neg h]
  by_cases h2 : Lib.index l m = -1
  ·rw [if_pos h2,if_pos (by rw [h2]; rfl)]
  ·rw [if_neg h2,if_neg (by rw [beq_iff_eq]; exact h2)]
theorem idx_nil (m : Tx) (h : m ≠ []) : Lib.index [] m = -1 := by
 rw [Lib.index,if_neg]
 cases m with
 | nil => exact absurd rfl h
 | cons => simp
theorem ext_to (s : ByteArray) (t i : Nat) (h : i ≤ s.size) : s.extract t i = bb ((s.data.toList.drop t).take (i - t)) := by
 apply ByteArray.ext
 apply Array.ext'
 rw [ByteArray.data_extract,Array.toList_extract,List.extract_eq_take_drop]
end Go.Proofs.YtjmmninopagpjaaGreatDoor
