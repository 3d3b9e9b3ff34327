import Derived.Test.YticnbcfmbhjbgaaGreatDoorXH
import Derived.Test.YticnbcfmbhjbgaaGreatDoorX30
import Derived.Test.YticnbcfmbhjbgaaGreatDoorX31
import Derived.Test.YticnbcfmbhjbgaaGreatDoorX42
import Derived.Test.YticnbcfmbhjbgaaGreatDoorX19
set_option maxRecDepth 100000
set_option maxHeartbeats 32000000
set_option linter.unusedVariables false
namespace Go.Proofs.Vmm
open Go.RowKit Go.IntWalk Lx Pz
open YticnbcfmbhjbgaaGreatDoor (Wd pE Fits inpV jS evE evV rU sS wZ nI aCk)
open Cde (In i0 ia kd cd Ins dA kS eX aS)
open Vfy (bB aJ)
open Pss (psF iC pX rnE rnI rnU rnK okP)

end Go.Proofs.Vmm
