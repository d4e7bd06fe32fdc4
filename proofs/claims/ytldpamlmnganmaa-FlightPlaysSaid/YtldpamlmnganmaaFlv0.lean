/- Flights of two keys, as plain data. No program; no condition. -/
import Derived.Test.YtldpamlmnganmaaFlu
namespace Go.Proofs.Ytldpamlmnganmaa.FL
open Go.ChangeShapes Go.WideShapes Go.ChangeAt Go.RowKit Go.Maps Go.ChangeMaps
open Go.Proofs.Ytldpamlmnganmaa.SL
set_option maxRecDepth 100000
set_option linter.unusedVariables false
set_option linter.unusedSimpArgs false

def ev (n : Nat) : List Int := (List.range n).map fun j : Nat => ((2 * j : Nat) : Int)
def od (n : Nat) : List Int := (List.range n).map fun j : Nat => ((2 * j + 1 : Nat) : Int)
def twoS (a b : Ky) (n : Nat) : List Fl := if n = 0 then [] else [(a, ev n), (b, od n)]
def midS (a b : Ky) (n : Nat) : List Fl := if n = 0 then [(a, [0])] else [(a, ev (n + 1)), (b, od n)]
theorem ev_succ (n : Nat) : ev (n + 1) = ev n ++ [((2 * n : Nat) : Int)] := by unfold ev; rw [List.range_succ, List.map_append]; rfl
theorem od_succ (n : Nat) : od (n + 1) = od n ++ [((2 * n + 1 : Nat) : Int)] := by unfold od; rw [List.range_succ, List.map_append]; rfl
theorem ev_mem {n : Nat} {c : Int} (h : c ∈ ev n) : ∃ j : Nat, j < n ∧ c = 2 * j := by
  unfold ev at h
  obtain ⟨j, hj, rfl⟩ := List.mem_map.1 h
  exact ⟨j, List.mem_range.1 hj, by omega⟩
theorem od_mem {n : Nat} {c : Int} (h : c ∈ od n) : ∃ j : Nat, j < n ∧ c = 2 * j + 1 := by
  unfold od at h
  obtain ⟨j, hj, rfl⟩ := List.mem_map.1 h
  exact ⟨j, List.mem_range.1 hj, by omega⟩
theorem ev_cons (n : Nat) : ∃ L, ev (n + 1) = 0 :: L ∧ L.length = n := by
  refine ⟨_, by unfold ev; rw [List.range_succ_eq_map, List.map_cons]; rfl, by simp⟩
theorem od_cons (n : Nat) : ∃ L, od (n + 1) = 1 :: L ∧ L.length = n := by
  refine ⟨_, by unfold od; rw [List.range_succ_eq_map, List.map_cons]; rfl, by simp⟩
theorem ask_ev {a b : Ky} (hab : a ≠ b) (n : Nat) : askS (twoS a b n) a ((2 * n : Nat) : Int) = (midS a b n, decide (n = 0), 0) := by
  unfold askS
  rw [if_neg (by omega)]
  have ho : ofF (twoS a b n) ((2 * n : Nat) : Int) = none := by
    refine ofF_no fun t ht hc => ?_
    unfold twoS at ht
    split at ht
    · cases ht
    · rcases List.mem_cons.1 ht with rfl | ht
      · obtain ⟨j, hj, e⟩ := ev_mem hc
        omega
      · obtain rfl : t = (b, od n) := by simpa using ht
        obtain ⟨j, hj, e⟩ := od_mem hc
        omega
  rw [ho]
  by_cases h : n = 0
  · subst h; rfl
  · have hf : findF (twoS a b n) a = some (ev n) := by
      unfold twoS findF
      rw [if_neg h]
      simp
    rw [hf, decide_eq_false h]
    show (joinS (twoS a b n) a _, false, (0 : Int)) = _
    congr 1
    unfold twoS joinS midS
    rw [if_neg h, if_neg h, ev_succ]
    simp [Ne.symm hab]
theorem ask_od {a b : Ky} (hab : a ≠ b) (n : Nat) : askS (midS a b n) b ((2 * n + 1 : Nat) : Int) = (twoS a b (n + 1), decide (n = 0), 0) := by
  unfold askS
  rw [if_neg (by omega)]
  have ho : ofF (midS a b n) ((2 * n + 1 : Nat) : Int) = none := by
    refine ofF_no fun t ht hc => ?_
    unfold midS at ht
    split at ht
    · obtain rfl : t = (a, [0]) := by simpa using ht
      have : ((2 * n + 1 : Nat) : Int) = 0 := by simpa using hc
      omega
    · rcases List.mem_cons.1 ht with rfl | ht
      · obtain ⟨j, hj, e⟩ := ev_mem hc
        omega
      · obtain rfl : t = (b, od n) := by simpa using ht
        obtain ⟨j, hj, e⟩ := od_mem hc
        omega
  rw [ho]
  by_cases h : n = 0
  · subst h
    have hf : findF (midS a b 0) b = none := by
      unfold midS findF
      rw [if_pos rfl]
      simp [hab]
    rw [hf]
    rfl
  · have hf : findF (midS a b n) b = some (od n) := by
      unfold midS findF
      rw [if_neg h]
      simp [hab]
    rw [hf, decide_eq_false h]
    show (joinS (midS a b n) b _, false, (0 : Int)) = _
    congr 1
    unfold twoS joinS midS
    rw [if_neg h, if_neg (by omega), od_succ]
    simp [hab]
theorem land_two {a b : Ky} (hab : a ≠ b) (n : Nat) : ∃ L, landS (twoS a b (n + 1)) a = ([(b, od (n + 1))], 0, L, true) ∧ L.length = n := by
  obtain ⟨L, hL, hl⟩ := ev_cons n
  refine ⟨L, ?_, hl⟩
  unfold landS
  rw [show findF (twoS a b (n + 1)) a = some (ev (n + 1)) by unfold twoS findF; rw [if_neg (by omega)]; simp, hL]
  show (closeS (twoS a b (n + 1)) a, (0 : Int), L, true) = _
  unfold closeS twoS
  rw [if_neg (by omega)]
  simp [Ne.symm hab]
theorem lead_two (b : Ky) (n : Nat) : leadS [(b, od (n + 1))] b = (1, true) := by
  obtain ⟨L, hL, _⟩ := od_cons n
  rw [lead_one, hL]
  rfl
theorem wait_two (b : Ky) (n : Nat) : waitS [(b, od (n + 1))] ((2 * n + 1 : Nat) : Int) = (b, true) := by
  unfold waitS ofF
  rw [od_succ]
  simp
theorem land_od (b : Ky) (n : Nat) : ∃ L, landS [(b, od (n + 1))] b = ([], 1, L, true) ∧ L.length = n := by
  obtain ⟨L, hL, hl⟩ := od_cons n
  exact ⟨L, by rw [land_one, hL]; rfl, hl⟩
end Go.Proofs.Ytldpamlmnganmaa.FL
