/- Lzh -/
import Derived.Test.YtjmmninopagpjaaGreatDoorG12
import Derived.Test.YtjmmninopagpjaaGreatDoorG1
set_option linter.unusedSimpArgs false
set_option linter.unusedVariables false
namespace Go.Proofs.YtjmmninopagpjaaGreatDoor
open Go.ChangeShapes Go.WideShapes Go.ChangeAt Go.RowKit
set_option maxRecDepth 100000
set_option linter.unusedVariables false
set_option linter.unusedSimpArgs false

theorem row_end (s : ByteArray) (p : UInt8 → Bool) (a : Nat) (ha : a ≤ s.size) : a + rowL p (s.data.toList.drop a) ≤ s.size := by
 have := rowL_le p (s.data.toList.drop a)
 rw [List.length_drop] at this
 have e : s.size = s.data.toList.length := rfl
 omega
end Go.Proofs.YtjmmninopagpjaaGreatDoor
