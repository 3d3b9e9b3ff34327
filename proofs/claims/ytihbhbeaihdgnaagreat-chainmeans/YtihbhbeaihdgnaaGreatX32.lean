import Derived.Test.YtihbhbeaihdgnaaGreatXH
import Derived.Test.YtihbhbeaihdgnaaGreatX28
import Derived.Test.YtihbhbeaihdgnaaGreatX30
set_option maxRecDepth 100000
set_option maxHeartbeats 32000000
set_option linter.unusedVariables false
namespace Go.Proofs.YtihbhbeaihdgnaaGreat
open Go.RowKit Lx Pz
variable {d f:Int} {BS:List Int}
structure Lg (f d:Int)(S:dM)(R:List Int)(I:List Cde.In)(T:dM):Prop where
 run:Vfy.gP f d I=(0,T)
 len:T.length=I.length
 val:∀ j,j < R.length->S.getD j (0,0)=T.getD (R.getD j 0).toNat (0,0)
 ah:I.any (Vfy.nU f d)=false
theorem aW2 {R:List Int}{S T:dM}{n:Nd}(hl:R.length=S.length)(hn:Wn BS S.length n)(h4:n.op≠4)
  (hv:∀ j,j < R.length->S.getD j (0,0)=T.getD (R.getD j 0).toNat (0,0)):Vfy.jZ f d T (pJ f d R n)=qX f d BS S n:=by
 have hv2:∀ p ∈ bV n,T.getD (sI R p).toNat (0,0)=S.getD p.toNat (0,0):=fun p hp=>(hv _ (by rw[hl];exact(hn.prt p hp).2)).symm
 unfold Vfy.jZ qX
 rw[oL,if_neg h4]
 by_cases h1:n.op=1
 ·rw[if_pos h1,if_pos h1]
  have e:mE n.op=0:=by rw[h1];rfl
  have ek:(pJ f d R n).k=n.k:=by
   unfold pJ loK
   rw[e,if_neg (by decide),if_neg (by decide),if_neg (by decide),if_neg (by omega)]
  rw[ek]
 rw[if_neg h1,if_neg h1]
 by_cases h2:n.op=2
 ·rw[if_pos h2,if_pos h2]
  have e:mE n.op=0:=by rw[h2];rfl
  have ek:(pJ f d R n).k=n.k:=by
   unfold pJ loK
   rw[e,if_neg (by decide),if_neg (by decide),if_neg (by decide),if_neg (by omega)]
  rw[ek]
 rw[if_neg h2,if_neg h2]
 by_cases h3:n.op=3
 ·rw[if_pos h3,if_pos h3]
 rw[if_neg h3,if_neg h3]
 have hk:(pJ f d R n).k=0/\(pJ f d R n).s=0/\Vfy.vI T (pJ f d R n)=(bV n).map fun p=>S.getD p.toNat (0,0):=by
  unfold Vfy.vI Cde.dN Cde.bY Cde.abc
  rw[oL,vG]
  unfold pJ
  rcases rO hn h4 with⟨e,h⟩|⟨h5,e,hq⟩|⟨h5,e,hq⟩|⟨h5,e,hq⟩
  ·omega
  ·rw[hq] at hv2 ⊢
   rw[e,if_pos rfl]
   refine⟨rfl,rfl,?_⟩
   show [T.getD (sI R n.a).toNat (0,0)]=[S.getD n.a.toNat (0,0)]
   rw[hv2 n.a (by simp)]
  ·rw[hq] at hv2 ⊢
   rw[e,if_neg (by decide),if_pos rfl]
   refine⟨rfl,rfl,?_⟩
   show [T.getD (sI R n.a).toNat (0,0),T.getD (sI R n.b).toNat (0,0)]=[S.getD n.a.toNat (0,0),S.getD n.b.toNat (0,0)]
   rw[hv2 n.a (by simp),hv2 n.b (by simp)]
  ·rw[hq] at hv2 ⊢
   rw[e,if_neg (by decide),if_neg (by decide),if_pos rfl]
   refine⟨rfl,rfl,?_⟩
   show [T.getD (sI R n.a).toNat (0,0),T.getD (sI R n.b).toNat (0,0),T.getD (sI R n.c).toNat (0,0)]=[S.getD n.a.toNat (0,0),S.getD n.b.toNat (0,0),S.getD n.c.toNat (0,0)]
   rw[hv2 n.a (by simp),hv2 n.b (by simp),hv2 n.c (by simp)]
 rw[hk.1,hk.2.1,hk.2.2]
theorem aW1 {R:List Int}{n:Nd}(ha:n.op=3->∃ q,Knd.lV f d (jJ n)=some q):Vfy.nU f d (pJ f d R n)=false:=by
 unfold Vfy.nU
 rw[oL]
 by_cases h3:n.op=3
 ·obtain⟨q,hq⟩:=ha h3
  have:=aF0 hq
  have e:mE n.op=0:=by rw[h3];rfl
  have ek:(pJ f d R n).k=(q:Int):=by
   unfold pJ loK
   rw[e,if_neg (by decide),if_neg (by decide),if_neg (by decide),if_pos h3,hq]
   rfl
  rw[ek]
  simp
  omega
 ·rw[show (n.op==3)=false by simpa using h3];rfl
theorem Lg.all {f d:Int}{BS:List Int}:∀(B A:List Nd) (s:List Int × List Cde.In) (S T U:dM),S.length=A.length->Lw A s.1 s.2->Lg f d S s.1 s.2 T->Wl BS A.length B->(∀ n ∈ B,n.op=3->∃ q,Knd.lV f d (jJ n)=some q)->nX f d BS B S=(U,0)->∃ T',Lg f d U (B.foldl (yS f d BS) s).1 (B.foldl (yS f d BS) s).2 T'
 | [],A,s,S,T,U,hS,hw,hg,_,_,h=>by cases h;exact⟨T,hg⟩
 | n::B,A,s,S,T,U,hS,hw,hg,hl,ha,h=>by
  simp only[nX] at h
  split at h
  ·rename_i h1
   have hn:=hl.1
   rw[<-hS] at hn
   have hRl:=hw.len
   have hlw:=hw.step (f:=f) (d:=d) (BS:=BS) hl.1 (ha n (by simp))
   have hlg:∃ T',Lg f d (S++[(qX f d BS S n).1]) (yS f d BS s n).1 (yS f d BS s n).2 T':=by
    unfold yS
    by_cases h4:n.op=4
    ·rw[if_pos h4]
     refine⟨T,hg.run,hg.len,fun j hj=>?_,hg.ah⟩
     simp only[List.length_append,List.length_cons,List.length_nil] at hj
     by_cases e:j < s.1.length
     ·rw[bC (by omega),bC e];exact hg.val j e
     ·obtain rfl:j=s.1.length:=by omega
      rw[bN,show s.1.length=S.length by omega,bN]
      unfold qX
      rw[if_pos h4]
      exact hg.val _ (by have:=(hn.use h4).2.2.2;omega)
    ·rw[if_neg h4]
     have e1:=aW2 (f:=f) (d:=d) (BS:=BS) (R:=s.1) (T:=T) (by omega) hn h4 hg.val
     refine⟨T++[(qX f d BS S n).1],?_,by simp[hg.len],fun j hj=>?_,?_⟩
     ·rw[Vfy.iM,hg.run]
      unfold Vfy.yU
      simp only[if_true]
      rw[e1,if_pos h1]
     ·simp only[List.length_append,List.length_cons,List.length_nil] at hj
      by_cases e:j < s.1.length
      ·have hr:=hw.reg j (by omega)
       rw[bC (by omega),bC e,bC (by rw[hg.len];exact hr.2)]
       exact hg.val j e
      ·obtain rfl:j=s.1.length:=by omega
       rw[bN,show s.1.length=S.length by omega,bN,Int.toNat_natCast,<-hg.len,bN]
     ·show (s.2++[pJ f d s.1 n]).any (Vfy.nU f d)=false
      rw[List.any_append,hg.ah,List.any_cons,aW1 (ha n (by simp))]
      rfl
   obtain⟨T',hg'⟩:=hlg
   exact Lg.all B (A++[n]) (yS f d BS s n) _ T' U (by simp[hS]) hlw hg' (by simpa using hl.2) (fun m hm=>ha m (by simp[hm])) h
  ·rename_i h1;exact absurd (congrArg Prod.snd h) h1
theorem aT7 {NM:List aR}{NS:List Nd}{root:Int}(h:nD f d NM BS NS root=0):∃ T,Lg f d (nX f d BS NS []).1 (tL f d BS NS).1 (tL f d BS NS).2 T:=by
 obtain⟨a1,a2,a3,a4,-⟩:=rW.1 h
 obtain⟨es,ex,hD⟩:=jS.1 a2
 exact Lg.all NS [] ([],[]) [] [] _ rfl aBu ⟨rfl,rfl,fun j hj=>by simp at hj,rfl⟩ hD.wl (fun n hn h3=>wG h hn h3) (Prod.ext rfl a4)
theorem xJ {NM:List aR}{NS:List Nd}{root:Int}(h:nD f d NM BS NS root=0){I:List Cde.In}{o:Int}(hI:I=(tL f d BS NS).2)(ho:o=(tL f d BS NS).1.getD root.toNat 0) :
  Vfy.aZ f d I o=0/\Vfy.rA f d I o=vK NS/\0<=o/\o.toNat < Vfy.rC f d I o/\(Vfy.rH f d I o).getD o.toNat (0,0)=(nX f d BS NS []).1.getD (NS.length-1) (0,0)/\1<=NS.length/\NS.length<=1024:=by
 obtain⟨a1,a2,a3,a4,a5,a6⟩:=rW.1 h
 obtain⟨T,hT⟩:=aT7 h
 have hw:=xK h
 have hm:=aUb h
 obtain⟨r0,r1,r2⟩:=jB a2
 obtain⟨es,ex,hD⟩:=jS.1 a2
 have hr:=hD.root
 rw[<-hI] at hT hw hm
 rw[<-ho] at hm
 have hco:=hw.co
 have h0:Vfy.aZ f d I o=0:=Vfy.aC0.2 ⟨Vfy.vN.2 ⟨hm,hT.ah⟩,by rw[hT.run],by omega⟩
 obtain⟨-,-,⟨S',h1,h2,h3⟩,-,h5,h6⟩:=Vfy.aL h0
 rw[hT.run] at h1
 cases h1
 obtain⟨-,-,-,q1,q2,-⟩:=Cde.aT hm
 have e1:root.toNat=NS.length-1:=by omega
 refine⟨h0,by rw[h6,hco],q1,by rw[h5];omega,?_,by omega,r2⟩
 rw[h3,<-e1,hT.val root.toNat (by rw[hw.len];exact r1),<-ho]
end Go.Proofs.YtihbhbeaihdgnaaGreat
