import Derived.Test.YticnbcfmbhjbgabGreatDoorXH
import Derived.Test.YticnbcfmbhjbgabGreatDoorX30
import Derived.Test.YticnbcfmbhjbgabGreatDoorX42
import Derived.Test.YticnbcfmbhjbgabGreatDoorX26
set_option maxRecDepth 100000
set_option maxHeartbeats 32000000
set_option linter.unusedVariables false
namespace Go.Proofs.Vmm
open Go.RowKit Go.IntWalk Lx Pz
open YticnbcfmbhjbgabGreatDoor (Wd lF Fits inpV lG evE evV rQ sP wW nG aCh)
open Cde (In i0 ia kd cd Ins cZ kQ eQ aS)
open Vfy (bB aJ)
open Pss (psF iA pW rnE rnI rnU rnK okP)

end Go.Proofs.Vmm
