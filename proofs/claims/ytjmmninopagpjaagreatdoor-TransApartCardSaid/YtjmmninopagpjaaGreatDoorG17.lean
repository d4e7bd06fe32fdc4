/- Nmg Nmh Nmi -/
import Derived.Test.YtjmmninopagpjaaGreatDoorG16
import Derived.Test.YtjmmninopagpjaaGreatDoorG15
import Derived.Test.YtjmmninopagpjaaGreatDoorG1
set_option linter.unusedSimpArgs false
set_option linter.unusedVariables false
namespace Go.Proofs.YtjmmninopagpjaaGreatDoor
open Go.ChangeShapes Go.WideShapes Go.ChangeAt Go.RowKit
set_option maxRecDepth 100000
set_option linter.unusedVariables false
set_option linter.unusedSimpArgs false



theorem val_snoc (l : Tx) (c : UInt8) : valL (l ++ [c]) = 10 * valL l + (c.toNat - 48) := by
 unfold valL; rw [List.foldl_append]; rfl
theorem dig_le (c : UInt8) (h : digB c = true) : 48 ≤ c.toNat ∧ c.toNat ≤ 57 := by
 unfold digB digN at h
 rw [decide_eq_true_iff] at h
 omega
theorem val_fold : ∀ (l : Tx) (n : Nat),l.all digB = true → l.foldl (fun n c => 10 * n + (c.toNat - 48)) n < (n + 1) * 10 ^ l.length := by
 intro l
 induction l with
 | nil => intro n _; simp
 | cons c r ih =>
  intro n h
  rw [List.all_cons,Bool.and_eq_true] at h
  have h1 := ih (10 * n + (c.toNat - 48)) h.2
  have h3 := dig_le c h.1
  rw [List.foldl_cons,List.length_cons,Nat.pow_succ]
  have h4 : (10 * n + (c.toNat - 48) + 1) * 10 ^ r.length ≤ ((n + 1) * 10) * 10 ^ r.length := Nat.mul_le_mul_right _ (by omega)
  have h5 : (n + 1) * (10 ^ r.length * 10) = ((n + 1) * 10) * 10 ^ r.length := by rw [Nat.mul_comm (10 ^ r.length) 10,Nat.mul_assoc]
  omega
end Go.Proofs.YtjmmninopagpjaaGreatDoor
