/- Tes -/
import Derived.Test.YtpgddamhdfmdjaaGreatDoorG5
import Derived.Test.YtpgddamhdfmdjaaGreatDoorG19
import Derived.Test.YtpgddamhdfmdjaaGreatDoorG1
set_option linter.unusedSimpArgs false
set_option linter.unusedVariables false
set_option maxRecDepth 100000
set_option maxHeartbeats 16000000
namespace Go.Proofs.YtpgddamhdfmdjaaGreatDoor
open Go.ChangeShapes Go.WideShapes Go.ChangeAt Go.RowKit
end Go.Proofs.YtpgddamhdfmdjaaGreatDoor
