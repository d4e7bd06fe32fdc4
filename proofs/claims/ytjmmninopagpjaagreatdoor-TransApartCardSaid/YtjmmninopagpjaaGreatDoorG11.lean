/- Lya Lza Lzb Lzc -/
import Derived.Test.YtjmmninopagpjaaGreatDoorG10
import Derived.Test.YtjmmninopagpjaaGreatDoorG9
import Derived.Deep.LoopGhost
import Derived.Test.YtjmmninopagpjaaGreatDoorG1
set_option linter.unusedSimpArgs false
set_option linter.unusedVariables false
namespace Go.Proofs.YtjmmninopagpjaaGreatDoor
open Go.ChangeShapes Go.WideShapes Go.ChangeAt Go.RowKit
set_option maxRecDepth 100000
set_option linter.unusedVariables false
set_option linter.unusedSimpArgs false

abbrev bb (l : Tx) : ByteArray := ⟨l.toArray⟩
theorem bb_size (a : Tx) : (bb a).size = a.length := by show a.toArray.size = _; simp
theorem ext_one (s : ByteArray) (k : Nat) (hk : k < s.size) : s.extract k (k + 1) = bb [s.data.toList[k]'hk] := by
 apply ByteArray.ext
 apply Array.ext'
 rw [ByteArray.data_extract,Array.toList_extract]
 have h2 : k < s.data.toList.length := hk
 rw [List.extract_eq_take_drop,show k + 1 - k = 1 by omega,List.drop_eq_getElem_cons h2]
 simp

theorem starts_eq (s p : ByteArray) (a : Nat) (h : a + p.size ≤ s.size) : ((s.extract a (a + p.size)).toList == p.toList) = p.data.toList.isPrefixOf (s.data.toList.drop a) := by
 rw [ByteArray.toList_eq,ByteArray.toList_eq]
 have e : (s.extract a (a + p.size)).data.toList = (s.data.toList.drop a).take p.size := by
  rw [ByteArray.data_extract,Array.toList_extract,List.extract_eq_take_drop]
  congr 1
  omega
 rw [e]
 have hp : p.size = p.data.toList.length := rfl
 rw [hp]
 rw [Bool.eq_iff_iff,beq_iff_eq,List.isPrefixOf_iff_prefix,List.prefix_iff_eq_take]
 exact ⟨fun h => h.symm,fun h => h.symm⟩
theorem starts_short (s p : ByteArray) (a : Nat) (h : ¬ a + p.size ≤ s.size) (ha : a ≤ s.size) : p.data.toList.isPrefixOf (s.data.toList.drop a) = false := by
 rw [Bool.eq_false_iff]
 intro hh
 have := (List.isPrefixOf_iff_prefix.1 hh).length_le
 rw [List.length_drop] at this
 have hp : p.size = p.data.toList.length := rfl
 have hs : s.size = s.data.toList.length := rfl
 omega
theorem byte_at (s : ByteArray) (a : Nat) (h : a < s.size) : s.data.toList.drop a = s[a] :: s.data.toList.drop (a + 1) := List.drop_eq_getElem_cons (by exact h)
theorem rowL_cons (p : UInt8 → Bool) (c : UInt8) (r : Tx) : rowL p (c :: r) = if p c = true then rowL p r + 1 else 0 := by
 unfold rowL
 rw [List.takeWhile_cons]
 split <;> simp_all

theorem pfx2 (x y : UInt8) (l : Tx) : ([x,y].isPrefixOf l = true) ↔ l.take 2 = [x,y] := by
 rw [List.isPrefixOf_iff_prefix,List.prefix_iff_eq_take]
 exact ⟨fun h => h.symm,fun h => h.symm⟩
theorem len2 (x y : UInt8) (s : ByteArray) (a : Nat) (h : (s.data.toList.drop a).take 2 = [x,y]) : a + 2 ≤ s.size := by
 have := congrArg List.length h
 rw [List.length_take,List.length_drop,← Lib.size_eq] at this
 simp only [List.length_cons,List.length_nil] at this; omega
def remAt (s : ByteArray) (a : Nat) : Option Nat := (remL 1 (s.data.toList.drop (a + 2))).map (· + (a + 2))

def notNl (c : UInt8) : Bool := c != 10
def lineEnd (s : ByteArray) (a : Nat) : Nat := a + rowL notNl (s.data.toList.drop a)
def gapN : Nat → ByteArray → Nat → Nat × Bool
 | 0,_,a => (a,false)
 | f + 1,s,a =>
  if s.size ≤ a then (a,false) else
  if fiveQ ((s.data.toList.drop a).headD 0) = true then gapN f s (a + 1) else
  if (s.data.toList.drop a).take 2 = [45,45] then gapN f s (lineEnd s a) else
  if (s.data.toList.drop a).take 2 = [47,42] then (match remAt s a with
   | none => (a,true)
   | some n => gapN f s n) else (a,false)
theorem lineEnd_le (s : ByteArray) (a : Nat) (ha : a ≤ s.size) : lineEnd s a ≤ s.size := by
 unfold lineEnd
 have h1 : rowL notNl (s.data.toList.drop a) ≤ (s.data.toList.drop a).length := rowL_le _ _
 rw [List.length_drop] at h1
 have : s.size = s.data.toList.length := rfl
 omega
theorem lineEnd_gt (s : ByteArray) (a : Nat) (h : (s.data.toList.drop a).take 2 = [45,45]) : a + 1 ≤ lineEnd s a := by
 have hl := len2 _ _ s a h
 unfold lineEnd
 rw [byte_at s a (by omega),rowL_cons]
 rw [byte_at s a (by omega),List.take_succ_cons] at h
 injection h with h _
 rw [h,if_pos (by decide)]
 omega
theorem remAt_le (s : ByteArray) (a n : Nat) (h : remAt s a = some n) (h2 : (s.data.toList.drop a).take 2 = [47,42]) : a + 1 ≤ n ∧ n ≤ s.size := by
 have hl := len2 _ _ s a h2
 unfold remAt at h
 cases hr : remL 1 (s.data.toList.drop (a + 2)) with
 | none => rw [hr] at h; cases h
 | some k =>
  rw [hr] at h
  simp at h
  have := remL_le _ _ _ hr
  rw [List.length_drop] at this
  have hs : s.size = s.data.toList.length := rfl
  omega
end Go.Proofs.YtjmmninopagpjaaGreatDoor
