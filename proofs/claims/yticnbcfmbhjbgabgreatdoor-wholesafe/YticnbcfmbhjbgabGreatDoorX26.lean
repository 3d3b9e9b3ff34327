import Derived.Test.YticnbcfmbhjbgabGreatDoorXH
import Derived.Test.YticnbcfmbhjbgabGreatDoorX25
set_option maxRecDepth 100000
set_option maxHeartbeats 32000000
set_option linter.unusedVariables false
namespace Go.Proofs.Vmm
open Go.RowKit Go.IntWalk Knd
open YticnbcfmbhjbgabGreatDoor (Wd eZ Fits inpV)
open Cde (In i0 ia kd cd Ins Ls jU dE rM aH aC aQ aJ bE zA fA aG bV jQ dG uP rX fQ TwP aP bZ lL aHo gK eF sF spn eQ)
open Vfy (aW pG oQ nR w32 aI gJ lN xO)
theorem aQ3 {f d:Int}{v:Wd}{L:List In}{k:Nat}(hk:k < L.length){D:List Int}(h:jQ f d v (L.take (k+1))=(0,D)):jQ f d v (L.take k)=(0,D.take k):=by
 have h2:=h
 rw[aG i0 hk,dG] at h
 unfold rX at h
 split at h
 ·rename_i h0
  have hl:=uP f d v L k (by omega) h0
  split at h
  ·simp only[Prod.mk.injEq,true_and] at h
   rw[<-h]
   refine Prod.ext h0 ?_
   show _=List.take k (_++_)
   rw[List.take_append_of_le_length (by omega)]
   exact(lTl (by omega)).symm
  ·rename_i h1
   simp only[Prod.mk.injEq] at h
   exact absurd h.1 h1
 ·rename_i h0
  rw[h] at h0
  exact absurd rfl h0
theorem nM {f d:Int}{v:Wd}{L:List In}:∀(j k:Nat) (D:List Int),k+j<=L.length->jQ f d v (L.take (k+j))=(0,D)->jQ f d v (L.take k)=(0,D.take k)
 | 0,k,D,h,he=>by
  have:=uP f d v L k (by omega) (by rw[Nat.add_zero] at he;rw[he])
  rw[Nat.add_zero] at he
  rw[he] at this ⊢
  rw[lTl (by simp at this;omega)]
 | j+1,k,D,h,he=>by
  have h1:=aQ3 (show k+j < L.length by omega) he
  have h2:=nM j k _ (by omega) h1
  rw[h2,List.take_take]
  congr 2
  omega
theorem aJn {f d out:Int}{L:List In}{v:Wd}(h:aW f d L out=0)(hF:Fits f d v){D:List Int}(hD:fQ f d v L out=(0,D)){k:Nat}(hk:k < L.length) :
  bE (L.getD k i0) k=true/\bV f d v D (L.getD k i0)=(D.getD k 0,0)/\((nR f d L out).getD k (0,0)).1<=D.getD k 0/\D.getD k 0<=((nR f d L out).getD k (0,0)).2/\w32 (D.getD k 0):=by
 obtain⟨-,-,h3⟩:=gJ h
 obtain⟨V,hV,hI⟩:=h3 v hF
 rw[hD] at hV
 cases hV
 obtain⟨m,-⟩:=aI h
 rw[fQ,if_pos m,if_pos hF] at hD
 have hl:D.length=L.length:=by
  have:=uP f d v L L.length (nLr _)
  rw[lTg,hD] at this
  exact this rfl
 have h1:=nM (f:=f) (d:=d) (v:=v) (L:=L) (L.length-k) k D (by omega) (by rw[show k+(L.length-k)=L.length by omega,lTg];exact hD)
 have h2:=nM (f:=f) (d:=d) (v:=v) (L:=L) (L.length-(k+1)) (k+1) D (by omega) (by rw[show k+1+(L.length-(k+1))=L.length by omega,lTg];exact hD)
 obtain⟨hlk,-,ho,x,hx,hw,h4⟩:=aDh h hF hk h1
 rw[h2,aG 0 (by omega)] at h4
 simp only[Prod.mk.injEq,true_and] at h4
 have hx2:D.getD k 0=x:=by
  have:=List.append_inj_right h4 rfl
  simpa using this
 have e:bV f d v D (L.getD k i0)=bV f d v (D.take k) (L.getD k i0):=by
  have:=Cde.xN (f:=f) (d:=d) (v:=v) (D:=D.take k) (Z:=D.drop k) (n:=L.getD k i0) (by rw[hlk];exact ho)
  rwa[lTd] at this
 obtain⟨i1,i2,i3⟩:=hI.2 k (by rw[<-hI.1];omega)
 exact⟨ho,by rw[e,hx,hx2],i1,i2,i3⟩
end Go.Proofs.Vmm
