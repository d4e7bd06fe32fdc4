/- Tel -/
import Derived.Test.YtjmmninopagpjaaGreatDoorG32
import Derived.Test.YtjmmninopagpjaaGreatDoorG1
set_option linter.unusedSimpArgs false
set_option linter.unusedVariables false
namespace Go.Proofs.YtjmmninopagpjaaGreatDoor
open Go.ChangeShapes Go.WideShapes Go.ChangeAt Go.RowKit
set_option maxRecDepth 100000
set_option linter.unusedVariables false
set_option linter.unusedSimpArgs false

def rowAt (l : List Rw) (i : Nat) : Bool := match l[i]? with
 | none => true
 | some r => (i == 0 || (match l[i - 1]? with | some q => decide (q.1 < r.1) | none => true)) && (inN r.1 && inN r.2)
def rowsGo (l : List Rw) : Nat → Nat → Bool
 | 0,_ => true
 | n + 1,i => rowAt l i && rowsGo l n (i + 1)
def rowsOk (l : List Rw) : Bool := decide (l.length ≤ 64) && rowsGo l l.length 0
theorem inn_any (n : Int) (w : World) : Calls Tryz.prog 73 #[.int .i64 n] w fun e w' => e = .returned (.bool (inN n)) ∧ w' = w := by
 by_cases h0 : 0 ≤ n
 ·by_cases h1 : n ≤ 999999
  ·have e : inN n = true := decide_eq_true ⟨h0,h1⟩
   rw [e]; clear e
   go_enter Tryz.func73,Tryz.ntmps73
   go_wp2
   go_ret
   exact ⟨by simp [h0,h1],rfl⟩
  ·have e : inN n = false := decide_eq_false fun h => h1 h.2
   rw [e]; clear e
   go_enter Tryz.func73,Tryz.ntmps73
   go_wp2
   go_ret
   exact ⟨by simp [h0,h1],rfl⟩
 ·have e : inN n = false := decide_eq_false fun h => h0 h.1
  rw [e]; clear e
  go_enter Tryz.func73,Tryz.ntmps73
  go_wp2
  go_ret
  exact ⟨by simp [h0],rfl⟩
theorem rinn_any (n : Int) (w : World) : Calls Tryz.prog 52 #[.int .i64 n] w fun e w' => e = .returned (.bool (inN n)) ∧ w' = w := by
 by_cases h0 : 0 ≤ n
 ·by_cases h1 : n ≤ 999999
  ·have e : inN n = true := decide_eq_true ⟨h0,h1⟩
   rw [e]; clear e
   go_enter Tryz.func52,Tryz.ntmps52
   go_wp2
   go_ret
   exact ⟨by simp [h0,h1],rfl⟩
  ·have e : inN n = false := decide_eq_false fun h => h1 h.2
   rw [e]; clear e
   go_enter Tryz.func52,Tryz.ntmps52
   go_wp2
   go_ret
   exact ⟨by simp [h0,h1],rfl⟩
 ·have e : inN n = false := decide_eq_false fun h => h0 h.1
  rw [e]; clear e
  go_enter Tryz.func52,Tryz.ntmps52
  go_wp2
  go_ret
  exact ⟨by simp [h0],rfl⟩
end Go.Proofs.YtjmmninopagpjaaGreatDoor
