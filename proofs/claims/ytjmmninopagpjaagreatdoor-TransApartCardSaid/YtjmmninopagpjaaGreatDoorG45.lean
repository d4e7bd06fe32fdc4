/- Dtx -/
import Derived.Test.YtjmmninopagpjaaGreatDoorG43
import Derived.Test.YtjmmninopagpjaaGreatDoorG44
import Derived.Test.YtjmmninopagpjaaGreatDoorG34
import Derived.Test.YtjmmninopagpjaaGreatDoorG32
import Derived.Deep.RegionHeld3
import Derived.Test.YtjmmninopagpjaaGreatDoorG1
set_option linter.unusedSimpArgs false
set_option linter.unusedVariables false
namespace Go.Proofs.YtjmmninopagpjaaGreatDoor
open Go.ChangeShapes Go.WideShapes Go.ChangeAt Go.RowKit
set_option maxRecDepth 100000
set_option linter.unusedVariables false
set_option linter.unusedSimpArgs false

theorem rinnB (n : Int) (b : Bool) (hb : inN n = b) (w : World) : Calls Tryz.prog 52 #[.int .i64 n] w fun e w' => e = .returned (.bool b) ∧ Below w.heap.size w w' := by
 subst hb
 refine (rinn_any n w).mono ?_
 rintro e w' ⟨he,rfl⟩
 exact ⟨he,Below.refl _ _⟩
end Go.Proofs.YtjmmninopagpjaaGreatDoor
