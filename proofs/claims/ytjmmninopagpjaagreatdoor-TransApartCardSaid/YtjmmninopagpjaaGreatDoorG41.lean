/- Tes -/
import Derived.Test.YtjmmninopagpjaaGreatDoorG40
import Derived.Test.YtjmmninopagpjaaGreatDoorG34
import Derived.Test.YtjmmninopagpjaaGreatDoorG1
set_option linter.unusedSimpArgs false
set_option linter.unusedVariables false
namespace Go.Proofs.YtjmmninopagpjaaGreatDoor
open Go.ChangeShapes Go.WideShapes Go.ChangeAt Go.RowKit
set_option maxRecDepth 100000
set_option linter.unusedVariables false
set_option linter.unusedSimpArgs false

end Go.Proofs.YtjmmninopagpjaaGreatDoor
