import Derived.Test.YticnbcfmbhjbgabGreatDoorXH
import Derived.Test.YticnbcfmbhjbgabGreatDoorRows
import Derived.Test.YticnbcfmbhjbgabGreatDoorCards
import Derived.Test.YticnbcfmbhjbgabGreatDoorTie
import Derived.SevenTiedAt
import Derived.LaidMore
import Derived.ProofKit
set_option maxRecDepth 100000
set_option maxHeartbeats 32000000
set_option linter.unusedVariables false
namespace Go.Proofs.YticnbcfmbhjbgabGreatDoor
open Go.ChangeShapes Go.WideShapes Go.ChangeAt Go.RowKit
theorem card_main:Tryz.prog.mainIs=some (Rows.wholeSafeCard.stood.harness.1,Rows.wholeSafeCard.stood.harness.2.toList):=by kernel_rfl
theorem card_looks:false=Tryz.prog.looks []:=by kernel_rfl
theorem card_goes:false=Rows.wholeSafeRow.goesBy Tryz.prog:=by kernel_rfl
end Go.Proofs.YticnbcfmbhjbgabGreatDoor
