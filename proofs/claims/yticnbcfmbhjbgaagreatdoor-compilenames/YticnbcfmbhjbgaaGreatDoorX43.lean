import Derived.Test.YticnbcfmbhjbgaaGreatDoorXH
import Derived.Test.YticnbcfmbhjbgaaGreatDoorX30
import Derived.Test.YticnbcfmbhjbgaaGreatDoorX31
import Derived.Test.YticnbcfmbhjbgaaGreatDoorX42
import Derived.Test.YticnbcfmbhjbgaaGreatDoorX19
set_option maxRecDepth 100000
set_option maxHeartbeats 32000000
set_option linter.unusedVariables false
namespace Go.Proofs.Vmm
open Go.RowKit Go.IntWalk Lx Pz
open YticnbcfmbhjbgaaGreatDoor (Wd pF Fits inpV jS evE evV rU sS wZ nJ aCk)
open Cde (In i0 ia kd cd Ins dA kT eX aS)
open Vfy (bC aJ)
open Pss (psF iC kF rnE rnI rnU rnK okP)

end Go.Proofs.Vmm
