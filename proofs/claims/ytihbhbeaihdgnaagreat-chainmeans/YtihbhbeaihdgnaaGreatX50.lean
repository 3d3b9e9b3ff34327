import Derived.Test.YtihbhbeaihdgnaaGreatXH
import Derived.Test.YtihbhbeaihdgnaaGreatX29
import Derived.Test.YtihbhbeaihdgnaaGreatX32
import Derived.Test.YtihbhbeaihdgnaaGreatX49
set_option maxRecDepth 100000
set_option maxHeartbeats 32000000
set_option linter.unusedVariables false
namespace Go.Proofs.Chn
open Go.RowKit Go.IntWalk Lx Pz
open YtihbhbeaihdgnaaGreat (Wd fD Fits inpV nD wR evV tL aL2 xJ jG jB xK dJ wS)
open Cde (In iR aT)
open Vfy (aZ aL tF)
open Pss (psF pV)
theorem aFy {f d:Int}{NM:List aR}{BS:List Int}{NS:List Nd}{root:Int}(h:nD f d NM BS NS root=0)(v:Wd){I J:List In}{o u:Int}{P:List Int}(hI:I=(tL f d BS NS).2)(ho:o=(tL f d BS NS).1.getD root.toNat 0)(hJ:psF f d P (I,o)=(J,u)) :
  aZ f d I o=0/\aZ f d J u=0/\∃ D,iR f d v J u=(wR f d v NM BS NS root,D)/\(wR f d v NM BS NS root=0->D.length=J.length/\D.getD u.toNat 0=evV f d v NM BS NS root)/\(wR f d v NM BS NS root≠0->D=[]/\evV f d v NM BS NS root=0):=by
 obtain⟨t1,-⟩:=xJ h hI ho
 have hk:=pV (f:=f) (d:=d) P (I,o) t1
 rw[hJ] at hk
 obtain⟨mc,-⟩:=aL t1
 refine⟨t1,hk.tk,?_⟩
 rcases dJ f d v with⟨hF,hf⟩|⟨hF,hf⟩
 ·obtain⟨X,hX⟩:=aL2 h hF
  rw[<-hI] at hX
  have hz:iR f d v I o=(0,X):=by unfold Cde.iR;rw[if_pos mc,if_pos hF];exact hX.run
  have he:wR f d v NM BS NS root=0:=wS.2 ⟨h,hF⟩
  have hrt:=jB (jG h)
  have hv:evV f d v NM BS NS root=X.getD o.toNat 0:=by
   unfold YtihbhbeaihdgnaaGreat.evV
   rw[if_pos he,hX.val root.toNat (by rw[(xK h).len];exact hrt.2.1),ho]
  obtain⟨V,U,v1,v2,v3,v4,v5⟩:=hk.vl v hF
  dsimp only at v1 v2 v3 v4 v5
  rw[hz] at v1
  have e:X=V:=congrArg Prod.snd v1
  subst e
  exact⟨U,by rw[he];exact v2,fun _=>⟨v4,by rw[v5,hv]⟩,fun hn=>absurd he hn⟩
 ·have he:wR f d v NM BS NS root=1:=by unfold YtihbhbeaihdgnaaGreat.wR;rw[if_pos h,hf]
  have hv:evV f d v NM BS NS root=0:=by unfold YtihbhbeaihdgnaaGreat.evV;rw[if_neg (by rw[he];decide)]
  refine⟨[],(by rw[he];exact tF hk.tk hF),(fun h0=>?_),fun _=>⟨rfl,hv⟩⟩
  rw[he] at h0
  cases h0
end Go.Proofs.Chn
