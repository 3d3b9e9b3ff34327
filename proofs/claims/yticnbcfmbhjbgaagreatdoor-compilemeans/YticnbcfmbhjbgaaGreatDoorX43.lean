import Derived.Test.YticnbcfmbhjbgaaGreatDoorX30
import Derived.Test.YticnbcfmbhjbgaaGreatDoorX42
import Derived.Test.YticnbcfmbhjbgaaGreatDoorX25
set_option maxRecDepth 100000
set_option maxHeartbeats 32000000
set_option linter.unusedVariables false
namespace Go.Proofs.Vmm
open Go.RowKit Go.IntWalk Lx Pz
open YticnbcfmbhjbgaaGreatDoor (Wd dQ Fits inpV jZ evE evV pF aOu lJ nC jS zK dX yL)
open Cde (In i0 ia kd cd Ins dL fZ eU aQ)
open Vfy (aW aI jY)
open Pss (psF fV rE aGy rnE rnI rnU rnK okP)
structure Mn (ev x s1 s2 co:Int)(r1 r2:Value):Prop where
 a:r1=.tuple #[.i x,.i s1,.i ev]
 b:r2=.tuple #[.i x,.i s2,.i ev]
 p:s1<=co
 q:s2<=co
 z:ev≠0\/(0 < s1/\0 < s2)
theorem aJt {D:List Int}{o x:Int}{n:Nat}(h:D.length=n)(hx:D.getD o.toNat 0=x):rT (0,D) o=.tuple #[.i x,.i n,.i 0]:=by
 simp[rT,rnX,rnN,h,<-hx]
theorem aFa {f d:Int}{NM:List aM}{BS:List Int}{NS:List Nd}{root:Int}(h:jZ f d NM BS NS root=0)(v:Wd){I J:List In}{o u:Int}(hI:I=(pF f d BS NS).2)(ho:o=(pF f d BS NS).1.getD root.toNat 0)(hJ:psF f d fV (I,o)=(J,u)) :
  aW f d I o=0/\aW f d J u=0/\I.length<=200/\∃ s1 s2,Mn (evE f d v NM BS NS root) (evV f d v NM BS NS root) s1 s2 (eU I) (rT (fZ f d v I o) o) (rT (fZ f d v J u) u):=by
 obtain⟨t1,-⟩:=lJ h hI ho
 have hk:=rE (f:=f) (d:=d) fV (I,o) t1
 rw[hJ] at hk
 obtain⟨mc,-⟩:=aI t1
 obtain⟨-,m1,m2,-,-,-⟩:=aQ mc
 have hf1:=aGy mc
 obtain⟨mc2,-⟩:=aI hk.tk
 obtain⟨-,j1,-,-,-,-⟩:=aQ mc2
 have hf2:=aGy mc2
 have hco:=hk.co
 dsimp only at hco j1 hf2
 refine⟨t1,hk.tk,by omega,?_⟩
 rcases dX f d v with⟨hF,hf⟩|⟨hF,hf⟩
 ·obtain⟨X,hX⟩:=aOu h hF
  rw[<-hI] at hX
  have hz:fZ f d v I o=(0,X):=by unfold Cde.fZ;rw[if_pos mc,if_pos hF];exact hX.run
  have he:evE f d v NM BS NS root=0:=yL.2 ⟨h,hF⟩
  have hrt:=jS (nC h)
  have hv:evV f d v NM BS NS root=X.getD o.toNat 0:=by
   unfold YticnbcfmbhjbgaaGreatDoor.evV
   rw[if_pos he,hX.val root.toNat (by rw[(zK h).len];exact hrt.2.1),ho]
  obtain⟨V,U,v1,v2,v3,v4,v5⟩:=hk.vl v hF
  dsimp only at v1 v2 v3 v4 v5
  rw[hz] at v1
  have e:X=V:=congrArg Prod.snd v1
  subst e
  rw[hz,v2,he,hv]
  exact⟨I.length,J.length,aJt v3 rfl,aJt v4 v5,by omega,by omega,.inr ⟨by omega,by omega⟩⟩
 ·have he:evE f d v NM BS NS root=1:=by unfold YticnbcfmbhjbgaaGreatDoor.evE;rw[if_pos h,hf]
  have hv:evV f d v NM BS NS root=0:=by unfold YticnbcfmbhjbgaaGreatDoor.evV;rw[if_neg (by rw[he];decide)]
  rw[jY t1 hF,jY hk.tk hF,he,hv]
  exact⟨0,0,rfl,rfl,by omega,by omega,.inl (by decide)⟩
end Go.Proofs.Vmm
namespace Go.Proofs.Cpl
open Go.RowKit Go.IntWalk Lx Pz
open YticnbcfmbhjbgaaGreatDoor (Wd dQ jZ oW evE evV pF lJ nY)
open Cde (In fZ eU)
open Vfy (aW pJ)
open Vmm (rT rnX rnN aFa)
open Chn (hrV hrX)
open Pss (psF fV)
structure Ms (ev x n co:Int)(r1 r2:Value):Prop where
 a:r1=.tuple #[.i x,.i n,.i ev]
 b:r2=.tuple #[.i x,.i ev]
 p:n<=co
 q:co<=200
 z:(ev=0/\0 < n)\/(ev≠0/\n=0)
theorem aOx {f d:Int}{NM:List aM}{BS:List Int}{NS:List Nd}{root:Int}(h:jZ f d NM BS NS root=0)(v:Wd){J:List In}{u:Int}(hJ:psF f d fV ((pF f d BS NS).2,(pF f d BS NS).1.getD root.toNat 0)=(J,u)) :
  ∃ n,Ms (evE f d v NM BS NS root) (evV f d v NM BS NS root) n (oW NS) (rT (fZ f d v J u) u) (hrV (fZ f d v J u) u):=by
 obtain⟨t1,-,-,s1,s2,hm⟩:=aFa h v rfl rfl hJ
 obtain⟨-,hc,-⟩:=lJ h rfl rfl
 unfold Vfy.pJ at hc
 rw[if_pos t1] at hc
 obtain⟨-,-,-,-,h5,-⟩:=nY.1 h
 have hb:=hm.b
 have hq:=hm.q
 have hz:=hm.z
 rw[hc] at hq
 refine⟨s2,hb,?_,hq,h5,?_⟩
 ·unfold Vmm.rT at hb
  unfold Chn.hrV Chn.hrX
  unfold Vmm.rnX at hb
  simp only[Value.tuple.injEq,Array.mk.injEq,List.cons.injEq,Value.int.injEq,true_and,and_true] at hb
  obtain⟨e1,e2,e3⟩:=hb
  rw[e1,e3]
 ·unfold Vmm.rT at hb
  simp only[Value.tuple.injEq,Array.mk.injEq,List.cons.injEq,Value.int.injEq,true_and,and_true] at hb
  obtain⟨e1,e2,e3⟩:=hb
  by_cases h0:evE f d v NM BS NS root=0
  ·exact .inl ⟨h0,by omega⟩
  ·refine .inr ⟨h0,?_⟩
   unfold Vmm.rnN at e2
   rw[<-e2,if_neg (by rw[e3];exact h0)]
end Go.Proofs.Cpl
