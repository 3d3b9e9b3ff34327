import Derived.Test.YticnbcfmbhjbgaaGreatDoorXH
import Derived.StillTail
import Derived.Lib.QuietBelow
set_option maxRecDepth 100000
set_option maxHeartbeats 32000000
set_option linter.unusedVariables false
namespace Go.Proofs.YticnbcfmbhjbgaaGreatDoor
open Go.RowKit Go.Sort Go
section
variable {l : List Oper} {o : Oper}
end
end Go.Proofs.YticnbcfmbhjbgaaGreatDoor
