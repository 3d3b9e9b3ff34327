import Derived.Test.YticnbcfmbhjbgabGreatDoorXH
import Derived.Test.YticnbcfmbhjbgabGreatDoorX30
import Derived.Test.YticnbcfmbhjbgabGreatDoorX31
import Derived.Test.YticnbcfmbhjbgabGreatDoorX42
import Derived.Test.YticnbcfmbhjbgabGreatDoorX25
import Derived.Test.YticnbcfmbhjbgabGreatDoorX26
set_option maxRecDepth 100000
set_option maxHeartbeats 32000000
set_option linter.unusedVariables false
namespace Go.Proofs.Vmm
open Go.RowKit Go.IntWalk Lx Pz
open YticnbcfmbhjbgabGreatDoor (Wd eZ Fits inpV kN evE evV mD mZ xZ oK aC2 fG)
open Cde (In i0 ia kd cd Ins dE fQ eQ aP)
open Vfy (aW aI lN)
open Pss (wR eP kS rnE rnI rnU rnK okP)

end Go.Proofs.Vmm
namespace Go.Proofs.Cpl
open Go.RowKit Go.IntWalk Lx Pz
open YticnbcfmbhjbgabGreatDoor (Wd kN rO mD mZ qP Fits)
open Cde (In i0 eQ bV bE)
open Vfy (aW oQ gJ)
open Pss (wR eP kS)
theorem aUk {f d:Int}{NM:List aN}{BS:List Int}{NS:List Nd}{root:Int}(h:kN f d NM BS NS root=0){J:List In}{u:Int}(hJ:wR f d eP ((mD f d BS NS).2,(mD f d BS NS).1.getD root.toNat 0)=(J,u)) :
  (J.length:Int)<=rO NS/\rO NS<=200:=by
 obtain⟨t1,hc,-⟩:=mZ h rfl rfl
 have hk:=kS (f:=f) (d:=d) eP ((mD f d BS NS).2,(mD f d BS NS).1.getD root.toNat 0) t1
 rw[hJ] at hk
 unfold Vfy.oQ at hc
 rw[if_pos t1] at hc
 obtain⟨-,-,-,-,h5,-⟩:=qP.1 h
 obtain⟨h6,-⟩:=gJ hk.tk
 have hco:=hk.co
 dsimp only at hco h6
 exact⟨by omega,h5⟩
theorem aHq {f d:Int}{v:Wd}{D:List Int}{m:In}{k:Nat}{x:Int}(hF:Fits f d v)(hok:bE m k=true)(hv:bV f d v D m=(x,0))(h3:m.op=3):0<=m.k/\m.k < v.ps.length/\v.ps.getD m.k.toNat 0=x:=by
 obtain⟨-,hl,-⟩:=hF
 unfold Cde.bV at hv
 rw[if_neg (by omega),if_neg (by omega),if_pos h3] at hv
 have hcs:Cde.mG m=true:=by
  unfold Cde.bE at hok
  simp only[bAt] at hok
  exact hok.2
 unfold Cde.mG at hcs
 rw[if_neg (by omega),if_neg (by omega),if_pos h3] at hcs
 simp only[bAt] at hcs
 have hk:=hcs.1
 unfold Spn.fC at hk
 simp only[bAt,dEt] at hk
 split at hv
 ·cases hv
 ·rename_i hn
  exact⟨hk.1,by omega,congrArg Prod.fst hv⟩
end Go.Proofs.Cpl
