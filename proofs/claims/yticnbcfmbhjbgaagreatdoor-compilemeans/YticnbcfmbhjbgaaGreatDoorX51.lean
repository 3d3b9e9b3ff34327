import Derived.Test.YticnbcfmbhjbgaaGreatDoorXH
import Derived.Test.YticnbcfmbhjbgaaGreatDoorCards
import Derived.Test.YticnbcfmbhjbgaaGreatDoorTie
import Derived.LaidMore
import Derived.ProofKit
set_option maxRecDepth 100000
set_option maxHeartbeats 32000000
set_option linter.unusedVariables false
namespace Go.Proofs.YticnbcfmbhjbgaaGreatDoor
open Go.ChangeShapes Go.WideShapes Go.ChangeAt Go.RowKit
theorem card_main:Tryz.prog.mainIs=some (Rows.compileMeansCard.stood.harness.1,Rows.compileMeansCard.stood.harness.2.toList):=by kernel_rfl
theorem card_looks:false=Tryz.prog.looks []:=by kernel_rfl
theorem card_goes:false=Rows.compileMeansRow.goesBy Tryz.prog:=by kernel_rfl
end Go.Proofs.YticnbcfmbhjbgaaGreatDoor
