/- FlightLeaves' walk. No condition. -/
import Derived.Test.YtldpamlmnganmaaFlt
namespace Go.Proofs.Ytldpamlmnganmaa.FL
open Go.ChangeShapes Go.WideShapes Go.ChangeAt Go.RowKit Go.Maps Go.ChangeMaps
open Go.Proofs.Ytldpamlmnganmaa.SL
set_option maxRecDepth 100000
set_option linter.unusedVariables false
set_option linter.unusedSimpArgs false

/-- the numbers below n -/
def upto (n : Nat) : List Int := (List.range n).map fun j : Nat => (j : Int)
def flS (k : Ky) (n : Nat) : List Fl := if n = 0 then [] else [(k, upto n)]
theorem upto_succ (n : Nat) : upto (n + 1) = upto n ++ [(n : Int)] := by
  unfold upto
  rw [List.range_succ, List.map_append]
  rfl
theorem upto_len (n : Nat) : (upto n).length = n := by unfold upto; simp
theorem upto_mem {n : Nat} {c : Int} : c ∈ upto n ↔ 0 ≤ c ∧ c < n := by
  unfold upto
  rw [List.mem_map]
  constructor
  · rintro ⟨j, hj, rfl⟩
    have := List.mem_range.1 hj
    omega
  · rintro ⟨h0, h1⟩
    exact ⟨c.toNat, List.mem_range.2 (by omega), by omega⟩
theorem upto_at {n i : Nat} (h : i < n) : (upto n)[i]? = some (i : Int) := by
  unfold upto
  rw [List.getElem?_map, List.getElem?_range h]
  rfl
theorem upto_cons (n : Nat) : upto (n + 1) = 0 :: (upto n).map (· + 1) := by
  unfold upto
  rw [List.range_succ_eq_map, List.map_cons, List.map_map, List.map_map]
  congr 1
theorem ask_upto (k : Ky) (n : Nat) : askS (flS k n) k (n : Int) = (flS k (n + 1), decide (n = 0), 0) := by
  unfold askS
  rw [if_neg (by omega)]
  have ho : ofF (flS k n) (n : Int) = none := by
    refine ofF_no fun t ht hc => ?_
    unfold flS at ht
    split at ht
    · cases ht
    · obtain rfl : t = (k, upto n) := by simpa using ht
      have := (upto_mem (n := n)).1 hc
      omega
  rw [ho]
  by_cases h : n = 0
  · subst h
    show (openS [] k 0, true, (0 : Int)) = (flS k 1, true, 0)
    unfold flS openS upto
    rfl
  · have hf : findF (flS k n) k = some (upto n) := by
      unfold flS findF
      rw [if_neg h]
      simp
    rw [hf]
    show (joinS (flS k n) k n, false, (0 : Int)) = _
    rw [decide_eq_false h]
    congr 1
    unfold flS joinS
    rw [if_neg h, if_neg (by omega), upto_succ]
    simp
theorem of_flS (k : Ky) {n : Nat} {c : Int} (h : 0 ≤ c ∧ c < n) : ofF (flS k n) c = some (k, upto n) := by
  unfold flS ofF
  rw [if_neg (by omega)]
  simp [upto_mem.2 h]
theorem leave_zero (k : Ky) (n : Nat) : leaveS (flS k (n + 1)) 0 = ([], (upto n).map (· + 1), true) := by
  unfold leaveS
  rw [of_flS k (by omega)]
  show (if (upto (n + 1)).headD 0 = 0 then (closeS (flS k (n + 1)) k, (upto (n + 1)).tail, true) else _) = _
  rw [upto_cons]
  show (if (0 : Int) = 0 then (closeS (flS k (n + 1)) k, (upto n).map (· + 1), true) else _) = _
  rw [if_pos rfl]
  unfold flS closeS
  rw [if_neg (by omega)]
  simp
theorem leave_more (k : Ky) {n : Nat} {c : Int} (h : 0 < c ∧ c < n) : leaveS (flS k n) c = ([(k, (upto n).filter fun y => decide (y ≠ c))], [], true) := by
  unfold leaveS
  rw [of_flS k (by omega)]
  obtain ⟨m, rfl⟩ : ∃ m, n = m + 1 := ⟨n - 1, by omega⟩
  show (if (upto (m + 1)).headD 0 = c then _ else (quitS (flS k (m + 1)) k c, [], true)) = _
  rw [upto_cons, if_neg (by show ¬ (0 : Int) = c; omega)]
  unfold flS quitS
  rw [if_neg (by omega)]
  rw [upto_cons]
  simp
theorem filter_len (n : Nat) {c : Int} (h : 0 ≤ c ∧ c < n) : ((upto n).filter fun y => decide (y ≠ c)).length = n - 1 := by
  induction n with
  | zero => omega
  | succ n ih =>
    rw [upto_succ, List.filter_append, List.length_append]
    by_cases e : (n : Int) = c
    · have : ((upto n).filter fun y => decide (y ≠ c)) = upto n := List.filter_eq_self.2 fun y hy => by
        have := upto_mem.1 hy
        exact decide_eq_true (by omega)
      rw [this, upto_len]
      simp [e]
    · rw [ih (by omega)]
      simp [e]
      omega
theorem leave_none (S : List Fl) (c : Int) (h : ofF S c = none) : leaveS S c = (S, [], false) := by unfold leaveS; rw [h]
theorem of_quit (k : Ky) (n : Nat) (c : Int) : ofF [(k, (upto n).filter fun y => decide (y ≠ c))] c = none := by
  refine ofF_no fun t ht hc => ?_
  obtain rfl : t = (k, (upto n).filter fun y => decide (y ≠ c)) := by simpa using ht
  simpa using (List.mem_filter.1 hc).2
theorem lead_one (k : Ky) (l : List Int) : leadS [(k, l)] k = (l.headD 0, true) := by unfold leadS findF; simp
theorem land_one (k : Ky) (l : List Int) : landS [(k, l)] k = ([], l.headD 0, l.tail, true) := by
  unfold landS
  rw [show findF [(k, l)] k = some l by unfold findF; simp]
  show (closeS [(k, l)] k, _, _, _) = _
  unfold closeS
  simp
theorem wait_nil (c : Int) : waitS [] c = (zKy, false) := rfl
theorem lead_nil (k : Ky) : leadS [] k = (0, false) := rfl
end Go.Proofs.Ytldpamlmnganmaa.FL
