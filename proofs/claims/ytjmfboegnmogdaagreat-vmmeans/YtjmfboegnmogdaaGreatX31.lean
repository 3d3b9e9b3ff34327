import Derived.Test.YtjmfboegnmogdaaGreatXH
import Derived.Test.YtjmfboegnmogdaaGreatX27
import Derived.Test.YtjmfboegnmogdaaGreatX29
set_option maxRecDepth 100000
set_option maxHeartbeats 32000000
set_option linter.unusedVariables false
namespace Go.Proofs.YtjmfboegnmogdaaGreat
open Go.RowKit Lx Pz
variable {d f:Int} {BS:List Int}
structure Lg (f d:Int)(S:dK)(R:List Int)(I:List Cde.In)(T:dK):Prop where
 run:Vfy.gU f d I=(0,T)
 len:T.length=I.length
 val:∀ j,j < R.length->S.getD j (0,0)=T.getD (R.getD j 0).toNat (0,0)
 ah:I.any (Vfy.nY f d)=false
theorem aXi {R:List Int}{S T:dK}{n:Nd}(hl:R.length=S.length)(hn:Wn BS S.length n)(h4:n.op≠4)
  (hv:∀ j,j < R.length->S.getD j (0,0)=T.getD (R.getD j 0).toNat (0,0)):Vfy.kE f d T (pR f d R n)=qZ f d BS S n:=by
 have hv2:∀ p ∈ bY n,T.getD (sI R p).toNat (0,0)=S.getD p.toNat (0,0):=fun p hp=>(hv _ (by rw[hl];exact(hn.prt p hp).2)).symm
 unfold Vfy.kE qZ
 rw[oP,if_neg h4]
 by_cases h1:n.op=1
 ·rw[if_pos h1,if_pos h1]
  have e:mF n.op=0:=by rw[h1];rfl
  have ek:(pR f d R n).k=n.k:=by
   unfold pR loK
   rw[e,if_neg (by decide),if_neg (by decide),if_neg (by decide),if_neg (by omega)]
  rw[ek]
 rw[if_neg h1,if_neg h1]
 by_cases h2:n.op=2
 ·rw[if_pos h2,if_pos h2]
  have e:mF n.op=0:=by rw[h2];rfl
  have ek:(pR f d R n).k=n.k:=by
   unfold pR loK
   rw[e,if_neg (by decide),if_neg (by decide),if_neg (by decide),if_neg (by omega)]
  rw[ek]
 rw[if_neg h2,if_neg h2]
 by_cases h3:n.op=3
 ·rw[if_pos h3,if_pos h3]
 rw[if_neg h3,if_neg h3]
 have hk:(pR f d R n).k=0/\(pR f d R n).s=0/\Vfy.vK T (pR f d R n)=(bY n).map fun p=>S.getD p.toNat (0,0):=by
  unfold Vfy.vK Cde.dL Cde.dE Cde.abc
  rw[oP,vI]
  unfold pR
  rcases rR hn h4 with⟨e,h⟩|⟨h5,e,hq⟩|⟨h5,e,hq⟩|⟨h5,e,hq⟩
  ·omega
  ·rw[hq] at hv2 ⊢
   rw[e,if_pos rfl]
   refine⟨rfl,rfl,?_⟩
   show [T.getD (sI R n.a).toNat (0,0)]=[S.getD n.a.toNat (0,0)]
   rw[hv2 n.a (by simp)]
  ·rw[hq] at hv2 ⊢
   rw[e,if_neg (by decide),if_pos rfl]
   refine⟨rfl,rfl,?_⟩
   show [T.getD (sI R n.a).toNat (0,0),T.getD (sI R n.b).toNat (0,0)]=[S.getD n.a.toNat (0,0),S.getD n.b.toNat (0,0)]
   rw[hv2 n.a (by simp),hv2 n.b (by simp)]
  ·rw[hq] at hv2 ⊢
   rw[e,if_neg (by decide),if_neg (by decide),if_pos rfl]
   refine⟨rfl,rfl,?_⟩
   show [T.getD (sI R n.a).toNat (0,0),T.getD (sI R n.b).toNat (0,0),T.getD (sI R n.c).toNat (0,0)]=[S.getD n.a.toNat (0,0),S.getD n.b.toNat (0,0),S.getD n.c.toNat (0,0)]
   rw[hv2 n.a (by simp),hv2 n.b (by simp),hv2 n.c (by simp)]
 rw[hk.1,hk.2.1,hk.2.2]
theorem aXh {R:List Int}{n:Nd}(ha:n.op=3->∃ q,Knd.lW f d (jL n)=some q):Vfy.nY f d (pR f d R n)=false:=by
 unfold Vfy.nY
 rw[oP]
 by_cases h3:n.op=3
 ·obtain⟨q,hq⟩:=ha h3
  have:=aF2 hq
  have e:mF n.op=0:=by rw[h3];rfl
  have ek:(pR f d R n).k=(q:Int):=by
   unfold pR loK
   rw[e,if_neg (by decide),if_neg (by decide),if_neg (by decide),if_pos h3,hq]
   rfl
  rw[ek]
  simp
  omega
 ·rw[show (n.op==3)=false by simpa using h3];rfl
theorem Lg.all {f d:Int}{BS:List Int}:∀(B A:List Nd) (s:List Int × List Cde.In) (S T U:dK),S.length=A.length->Lw A s.1 s.2->Lg f d S s.1 s.2 T->Wl BS A.length B->(∀ n ∈ B,n.op=3->∃ q,Knd.lW f d (jL n)=some q)->oC f d BS B S=(U,0)->∃ T',Lg f d U (B.foldl (yU f d BS) s).1 (B.foldl (yU f d BS) s).2 T'
 | [],A,s,S,T,U,hS,hw,hg,_,_,h=>by cases h;exact⟨T,hg⟩
 | n::B,A,s,S,T,U,hS,hw,hg,hl,ha,h=>by
  simp only[oC] at h
  split at h
  ·rename_i h1
   have hn:=hl.1
   rw[<-hS] at hn
   have hRl:=hw.len
   have hlw:=hw.step (f:=f) (d:=d) (BS:=BS) hl.1 (ha n (by simp))
   have hlg:∃ T',Lg f d (S++[(qZ f d BS S n).1]) (yU f d BS s n).1 (yU f d BS s n).2 T':=by
    unfold yU
    by_cases h4:n.op=4
    ·rw[if_pos h4]
     refine⟨T,hg.run,hg.len,fun j hj=>?_,hg.ah⟩
     simp only[List.length_append,List.length_cons,List.length_nil] at hj
     by_cases e:j < s.1.length
     ·rw[bD (by omega),bD e];exact hg.val j e
     ·obtain rfl:j=s.1.length:=by omega
      rw[bN,show s.1.length=S.length by omega,bN]
      unfold qZ
      rw[if_pos h4]
      exact hg.val _ (by have:=(hn.use h4).2.2.2;omega)
    ·rw[if_neg h4]
     have e1:=aXi (f:=f) (d:=d) (BS:=BS) (R:=s.1) (T:=T) (by omega) hn h4 hg.val
     refine⟨T++[(qZ f d BS S n).1],?_,by simp[hg.len],fun j hj=>?_,?_⟩
     ·rw[Vfy.iO,hg.run]
      unfold Vfy.yX
      simp only[if_true]
      rw[e1,if_pos h1]
     ·simp only[List.length_append,List.length_cons,List.length_nil] at hj
      by_cases e:j < s.1.length
      ·have hr:=hw.reg j (by omega)
       rw[bD (by omega),bD e,bD (by rw[hg.len];exact hr.2)]
       exact hg.val j e
      ·obtain rfl:j=s.1.length:=by omega
       rw[bN,show s.1.length=S.length by omega,bN,Int.toNat_natCast,<-hg.len,bN]
     ·show (s.2++[pR f d s.1 n]).any (Vfy.nY f d)=false
      rw[List.any_append,hg.ah,List.any_cons,aXh (ha n (by simp))]
      rfl
   obtain⟨T',hg'⟩:=hlg
   exact Lg.all B (A++[n]) (yU f d BS s n) _ T' U (by simp[hS]) hlw hg' (by simpa using hl.2) (fun m hm=>ha m (by simp[hm])) h
  ·rename_i h1;exact absurd (congrArg Prod.snd h) h1
theorem aUk {NM:List aQ}{NS:List Nd}{root:Int}(h:nH f d NM BS NS root=0):∃ T,Lg f d (oC f d BS NS []).1 (tK f d BS NS).1 (tK f d BS NS).2 T:=by
 obtain⟨a1,a2,a3,a4,-⟩:=rY.1 h
 obtain⟨es,ex,hD⟩:=jX.1 a2
 exact Lg.all NS [] ([],[]) [] [] _ rfl aBx ⟨rfl,rfl,fun j hj=>by simp at hj,rfl⟩ hD.wl (fun n hn h3=>wI h hn h3) (Prod.ext rfl a4)
theorem aDq {NM:List aQ}{NS:List Nd}{root:Int}(h:nH f d NM BS NS root=0){I:List Cde.In}{o:Int}(hI:I=(tK f d BS NS).2)(ho:o=(tK f d BS NS).1.getD root.toNat 0) :
  Vfy.bB f d I o=0/\Vfy.rD f d I o=vM NS/\0<=o/\o.toNat < Vfy.rE f d I o/\(Vfy.rO f d I o).getD o.toNat (0,0)=(oC f d BS NS []).1.getD (NS.length-1) (0,0)/\1<=NS.length/\NS.length<=1024:=by
 obtain⟨a1,a2,a3,a4,a5,a6⟩:=rY.1 h
 obtain⟨T,hT⟩:=aUk h
 have hw:=xL h
 have hm:=aUo h
 obtain⟨r0,r1,r2⟩:=jC a2
 obtain⟨es,ex,hD⟩:=jX.1 a2
 have hr:=hD.root
 rw[<-hI] at hT hw hm
 rw[<-ho] at hm
 have hco:=hw.co
 have h0:Vfy.bB f d I o=0:=Vfy.aC1.2 ⟨Vfy.vQ.2 ⟨hm,hT.ah⟩,by rw[hT.run],by omega⟩
 obtain⟨-,-,⟨S',h1,h2,h3⟩,-,h5,h6⟩:=Vfy.aM h0
 rw[hT.run] at h1
 cases h1
 obtain⟨-,-,-,q1,q2,-⟩:=Cde.aS hm
 have e1:root.toNat=NS.length-1:=by omega
 refine⟨h0,by rw[h6,hco],q1,by rw[h5];omega,?_,by omega,r2⟩
 rw[h3,<-e1,hT.val root.toNat (by rw[hw.len];exact r1),<-ho]
end Go.Proofs.YtjmfboegnmogdaaGreat
