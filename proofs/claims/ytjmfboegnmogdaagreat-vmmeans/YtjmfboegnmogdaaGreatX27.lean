import Derived.Test.YtjmfboegnmogdaaGreatXH
import Derived.Test.YtjmfboegnmogdaaGreatX25
import Derived.Test.YtjmfboegnmogdaaGreatX26
set_option maxRecDepth 100000
set_option maxHeartbeats 32000000
set_option linter.unusedVariables false
namespace Go.Proofs.YtjmfboegnmogdaaGreat
open Go.RowKit Lx Pz
variable {i:Nat} {BS R:List Int} {d f root:Int} {v:Wd}
def sI (R:List Int)(p:Int):Int:=R.getD p.toNat 0
def loK (f d:Int)(n:Nd):Int:=if n.op=3 then(((Knd.lW f d (jL n)).getD 0:Nat):Int) else n.k
def pR (f d:Int)(R:List Int)(n:Nd):Cde.In :=
 if mF n.op=1 then⟨n.op,sI R n.a,0,0,0,0⟩ else if mF n.op=2 then⟨n.op,sI R n.a,sI R n.b,0,0,0⟩ else
 if mF n.op=3 then⟨n.op,sI R n.a,sI R n.b,sI R n.c,0,0⟩ else⟨n.op,0,0,0,loK f d n,0⟩
def yU (f d:Int)(BS:List Int)(s:List Int × List Cde.In)(n:Nd):List Int × List Cde.In :=
 if n.op=4 then(s.1++[sI s.1 (BS.getD n.k.toNat 0)],s.2) else(s.1++[(s.2.length:Int)],s.2++[pR f d s.1 n])
def tK (f d:Int)(BS:List Int)(NS:List Nd):List Int × List Cde.In:=NS.foldl (yU f d BS) ([],[])
theorem aL6 (f d:Int)(BS:List Int)(NS:List Nd)(n:Nd):tK f d BS (NS++[n])=yU f d BS (tK f d BS NS) n:=by simp[tK]
def cn (NS:List Nd):Nat:=(NS.filter fun n=>n.op != 4).length
theorem aG5 (NS:List Nd)(n:Nd):cn (NS++[n])=if n.op=4 then cn NS else cn NS+1:=by
 unfold cn
 rw[List.filter_append,List.length_append]
 split
 ·rename_i h;simp[h]
 ·rename_i h;simp[h]
theorem oP (f d:Int)(R:List Int)(n:Nd):(pR f d R n).op=n.op:=by
 unfold pR
 repeat' split
 all_goals rfl
theorem aQ5 {L:List Cde.In}{x:Cde.In}:Cde.dN (L++[x]) L.length=Cde.dN L L.length:=by
 unfold Cde.dN
 rw[Bool.eq_iff_iff,List.all_eq_true,List.all_eq_true]
 have e:∀ i,i < L.length->(L++[x]).getD i Cde.i0=L.getD i Cde.i0:=fun i hi=>by
  rw[List.getD_eq_getElem?_getD,List.getElem?_append_left hi,<-List.getD_eq_getElem?_getD]
 constructor
 ·intro h i hi
  have:=h i hi
  rwa[e i (List.mem_range.1 hi)] at this
 ·intro h i hi
  rw[e i (List.mem_range.1 hi)]
  exact h i hi
theorem bN {α:Type}(L:List α)(x z:α):(L++[x]).getD L.length z=x:=by simp[List.getD_eq_getElem?_getD]
theorem bD {α:Type}{S Z:List α}{z:α}(h:i < S.length):(S++Z).getD i z=S.getD i z:=by
 rw[List.getD_eq_getElem?_getD,List.getElem?_append_left h,<-List.getD_eq_getElem?_getD]
theorem rR {n:Nd}(hn:Wn BS i n)(h4:n.op≠4):(mF n.op=0/\(n.op=1\/n.op=2\/n.op=3))\/(5<=n.op/\mF n.op=1/\bY n=[n.a])\/(5<=n.op/\mF n.op=2/\bY n=[n.a,n.b])\/(5<=n.op/\mF n.op=3/\bY n=[n.a,n.b,n.c]):=by
 have h1:=hn.ar h4
 have h2:=hn.pr
 have lo:=hn.lo
 have hi:=hn.hi
 have hp:bY n=[n.a,n.b,n.c].take (mF n.op).toNat:=by unfold bY;rw[h1]
 rw[hp]
 by_cases a:n.op<=3
 ·refine .inl ⟨?_,by omega⟩
  unfold mF;rw[if_pos (by omega)]
 by_cases b:n.op<=7
 ·have e:mF n.op=1:=by unfold mF;rw[if_neg (by omega),if_pos (by omega)]
  exact .inr (.inl ⟨by omega,e,by rw[e];rfl⟩)
 by_cases c:n.op<=25
 ·have e:mF n.op=2:=by unfold mF;rw[if_neg (by omega),if_neg (by omega),if_neg (by omega),if_pos (by omega)]
  exact .inr (.inr (.inl ⟨by omega,e,by rw[e];rfl⟩))
 ·have e:mF n.op=3:=by unfold mF;rw[if_neg (by omega),if_neg (by omega),if_neg (by omega),if_neg (by omega),if_pos (by omega)]
  exact .inr (.inr (.inr ⟨by omega,e,by rw[e];rfl⟩))
structure Lw (NS:List Nd)(R:List Int)(I:List Cde.In):Prop where
 len:R.length=NS.length
 reg:∀ j,j < NS.length->0<=R.getD j 0/\(R.getD j 0).toNat < I.length
 ok:Cde.dN I I.length=true
 co:Cde.dV I=vM NS
 le:(I.length:Int)<=vM NS
 cnt:I.length=cn NS
 own:∀ j,j < NS.length->(NS.getD j n0).op≠4->R.getD j 0=(cn (NS.take j):Int)/\(I.getD (cn (NS.take j)) Cde.i0).op=(NS.getD j n0).op/\cn (NS.take j) < I.length
theorem aF2 {p:Knd.Plc}{q:Nat}(hq:Knd.lW f d p=some q):(q:Int) < Knd.bL f d/\Knd.bL f d<=44:=by
 have h1:=Knd.kK f d
 have h2:=aBu _ _ _ (by omega) q hq
 have h3:=Knd.aEa f d
 have h4:Knd.bL f d<=44:=by unfold Knd.bL;repeat' split <;> omega
 omega
theorem qB {r:Int}(h:0<=r)(h2:r.toNat < i):Cde.rJ r true i=true:=by
 unfold Cde.rJ
 rw[if_pos rfl,Spn.aK]
 omega
theorem aUn {n:Nd}{m:Nat}(hn:Wn BS R.length n)(h4:n.op≠4)(hr:∀ j,j < R.length->0<=R.getD j 0/\(R.getD j 0).toNat < m)(ha:n.op=3->∃ q,Knd.lW f d (jL n)=some q):Cde.bC (pR f d R n) m=true:=by
 have hp:=hn.prt
 have hr2:∀ p ∈ bY n,0<=sI R p/\(sI R p).toNat < m:=fun p h=>hr _ (hp p h).2
 have hi:=hn.hi
 unfold Cde.bC Cde.rM Cde.nJ
 simp only[vI,oP,Bool.and_eq_true,decide_eq_true_eq]
 unfold pR
 rcases rR hn h4 with⟨e,h⟩|⟨h5,e,hq⟩|⟨h5,e,hq⟩|⟨h5,e,hq⟩
 ·rw[e]
  refine⟨⟨by omega,⟨rfl,rfl⟩,rfl⟩,?_⟩
  simp only[show ¬((0:Int)=1) by decide,show ¬((0:Int)=2) by decide,show ¬((0:Int)=3) by decide,if_false]
  unfold loK
  rcases h with h|h|h
  ·rw[if_pos h,if_neg (by omega)]
   have:=hn.num h
   simp only[beq_self_eq_true,Bool.and_true]
   exact Spn.bR.2 (by omega)
  ·rw[if_neg (by omega),if_pos h,if_neg (by omega)]
   have:=hn.inp h
   simp only[beq_self_eq_true,Bool.and_true,Spn.aK]
   omega
  ·rw[if_neg (by omega),if_neg (by omega),if_pos h,if_pos h]
   obtain⟨q,hq⟩:=ha h
   have:=aF2 hq
   rw[hq]
   simp only[Option.getD_some,beq_self_eq_true,Bool.and_true,Spn.aK]
   omega
 ·rw[hq] at hr2
  rw[e,if_pos rfl,if_neg (by omega),if_neg (by omega),if_neg (by omega),if_neg (by omega),if_neg (by omega)]
  have h1:=hr2 n.a (by simp)
  exact⟨⟨by omega,⟨qB h1.1 h1.2,rfl⟩,rfl⟩,rfl⟩
 ·rw[hq] at hr2
  rw[e,if_neg (by decide),if_pos rfl,if_neg (by omega),if_neg (by omega),if_neg (by omega),if_neg (by omega),if_neg (by omega)]
  have h1:=hr2 n.a (by simp)
  have h2:=hr2 n.b (by simp)
  exact⟨⟨by omega,⟨qB h1.1 h1.2,qB h2.1 h2.2⟩,rfl⟩,rfl⟩
 ·rw[hq] at hr2
  rw[e,if_neg (by decide),if_neg (by decide),if_pos rfl,if_neg (by omega),if_neg (by omega),if_neg (by omega),if_neg (by omega),if_neg (by omega)]
  have h1:=hr2 n.a (by simp)
  have h2:=hr2 n.b (by simp)
  have h3:=hr2 n.c (by simp)
  exact⟨⟨by omega,⟨qB h1.1 h1.2,qB h2.1 h2.2⟩,qB h3.1 h3.2⟩,rfl⟩
theorem aPi (o:Int):Cde.iU o=iU o:=rfl
theorem mD {α:Type}{A:List α}{x:α}{j:Nat}(h:j<=A.length):(A++[x]).take j=A.take j:=List.take_append_of_le_length h
theorem Lw.step {NS:List Nd}{I:List Cde.In}{n:Nd}(h:Lw NS R I)(hn:Wn BS NS.length n)(ha:n.op=3->∃ q,Knd.lW f d (jL n)=some q):Lw (NS++[n]) (yU f d BS (R,I) n).1 (yU f d BS (R,I) n).2:=by
 have hl:=h.len
 unfold yU
 by_cases h4:n.op=4
 ·rw[if_pos h4]
  dsimp only
  have h0:iU n.op=0:=by rw[h4];rfl
  obtain⟨-,-,-,hu⟩:=hn.use h4
  refine⟨by simp[hl],fun j hj=>?_,h.ok,by rw[oI,h0,h.co];simp,by rw[oI,h0];have:=h.le;simpa using this,by rw[aG5,if_pos h4];exact h.cnt,fun j hj hj4=>?_⟩
  ·simp only[List.length_append,List.length_cons,List.length_nil] at hj
   by_cases e:j < R.length
   ·rw[bD e];exact h.reg j (by omega)
   ·obtain rfl:j=R.length:=by omega
    rw[bN]
    exact h.reg _ hu
  ·simp only[List.length_append,List.length_cons,List.length_nil] at hj
   by_cases e:j < NS.length
   ·rw[bD e] at hj4
    rw[bD (by omega),bD e,mD (by omega)]
    exact h.own j e hj4
   ·obtain rfl:j=NS.length:=by omega
    rw[bN] at hj4
    exact absurd h4 hj4
 ·rw[if_neg h4]
  dsimp only
  have h1:1<=iU n.op:=by unfold iU;rw[if_neg h4];repeat' split <;> omega
  have hc:=h.cnt
  refine⟨by simp[hl],fun j hj=>?_,?_,by rw[oI,Cde.fI,h.co,oP,aPi],by rw[oI];have:=h.le;simp only[List.length_append,List.length_cons,List.length_nil];omega,by rw[aG5,if_neg h4];simp[hc],fun j hj hj4=>?_⟩
  ·simp only[List.length_append,List.length_cons,List.length_nil] at hj ⊢
   by_cases e:j < R.length
   ·rw[bD e];have:=h.reg j (by omega);omega
   ·obtain rfl:j=R.length:=by omega
    rw[bN]
    omega
  ·rw[show (I++[pR f d R n]).length=I.length+1 by simp,Cde.aD5,aQ5,h.ok,bN,Bool.true_and]
   exact aUn (by rw[hl];exact hn) h4 (fun j hj=>h.reg j (by omega)) ha
  ·simp only[List.length_append,List.length_cons,List.length_nil] at hj ⊢
   by_cases e:j < NS.length
   ·rw[bD e] at hj4
    obtain⟨a,b,c⟩:=h.own j e hj4
    rw[bD (by omega),bD e,mD (by omega),bD c]
    exact⟨a,b,by omega⟩
   ·obtain rfl:j=NS.length:=by omega
    rw[bN,mD (Nat.le_refl _),List.take_length,<-hl,bN,<-hc,bN,oP]
    exact⟨rfl,rfl,by omega⟩
theorem Lw.run {f d:Int}{BS:List Int}:∀(B A:List Nd) (s:List Int × List Cde.In),Lw A s.1 s.2->Wl BS A.length B->(∀ n ∈ B,n.op=3->∃ q,Knd.lW f d (jL n)=some q)->Lw (A++B) (B.foldl (yU f d BS) s).1 (B.foldl (yU f d BS) s).2
 | [],A,s,h,_,_=>by simpa using h
 | n::B,A,s,h,hw,ha=>by
  have h2:=Lw.run (f:=f) (d:=d) B (A++[n]) (yU f d BS s n) (h.step hw.1 (ha n (by simp))) (by simpa using hw.2) (fun m hm=>ha m (by simp[hm]))
  simpa using h2
theorem aBx:Lw [] [] []:=⟨rfl,fun j hj=>by simp at hj,rfl,rfl,by decide,rfl,fun j hj=>by simp at hj⟩
theorem xL {NM:List aQ}{NS:List Nd}(h:nH f d NM BS NS root=0):Lw NS (tK f d BS NS).1 (tK f d BS NS).2:=by
 obtain⟨es,ex,hD⟩:=jX.1 (rY.1 h).2.1
 have:=Lw.run (f:=f) (d:=d) NS [] ([],[]) aBx hD.wl (fun n hn h3=>wI h hn h3)
 rw[List.nil_append] at this
 exact this
theorem aUo {NM:List aQ}{NS:List Nd}(h:nH f d NM BS NS root=0):Cde.jS f d (tK f d BS NS).2 ((tK f d BS NS).1.getD root.toNat 0)=true:=by
 obtain⟨a1,a2,a3,a4,a5,a6⟩:=rY.1 h
 have hw:=xL h
 obtain⟨r0,r1,r2⟩:=jC a2
 have h1:=hw.reg root.toNat r1
 have h2:=hw.le
 unfold Cde.jS
 simp only[Bool.and_eq_true,decide_eq_true_eq,Spn.aK]
 exact⟨⟨⟨a1,by omega,by omega⟩,by omega,by omega⟩,hw.ok⟩
structure Lv (f d:Int)(v:Wd)(V R:List Int)(I:List Cde.In)(X:List Int):Prop where
 run:Cde.oD f d v I=(0,X)
 len:X.length=I.length
 val:∀ j,j < R.length->V.getD j 0=X.getD (R.getD j 0).toNat 0
theorem aUp {V X:List Int}{S:dK}{n:Nd}(hF:Fits f d v)(hI:rG V S)(hl:R.length=S.length)(hn:Wn BS S.length n)(h4:n.op≠4)(ha:n.op=3->∃ q,Knd.lW f d (jL n)=some q)(h:(qZ f d BS S n).2=0)
  (hv:∀ j,j < R.length->V.getD j 0=X.getD (R.getD j 0).toNat 0):Cde.dU f d v X (pR f d R n)=(zL f d v BS V n,0):=by
 have hv2:∀ p ∈ bY n,X.getD (sI R p).toNat 0=V.getD p.toNat 0:=fun p hp=>(hv _ (by rw[hl];exact(hn.prt p hp).2)).symm
 unfold Cde.dU zL
 rw[oP,if_neg h4]
 by_cases h1:n.op=1
 ·rw[if_pos h1,if_pos h1]
  have e:mF n.op=0:=by rw[h1];rfl
  unfold pR loK
  rw[e,if_neg (by decide),if_neg (by decide),if_neg (by decide),if_neg (by omega)]
 rw[if_neg h1,if_neg h1]
 by_cases h2:n.op=2
 ·rw[if_pos h2,if_pos h2]
  have e:mF n.op=0:=by rw[h2];rfl
  unfold pR loK
  rw[e,if_neg (by decide),if_neg (by decide),if_neg (by decide),if_neg (by omega)]
 rw[if_neg h2,if_neg h2]
 by_cases h3:n.op=3
 ·rw[if_pos h3,if_pos h3]
  have e:mF n.op=0:=by rw[h3];rfl
  obtain⟨q,hq⟩:=ha h3
  have:=aF2 hq
  have ek:(pR f d R n).k=(q:Int):=by
   unfold pR loK
   rw[e,if_neg (by decide),if_neg (by decide),if_neg (by decide),if_pos h3,hq]
   rfl
  rw[ek,if_neg (by omega),Int.toNat_natCast]
  unfold yI
  rw[hq]
  rfl
 rw[if_neg h3,if_neg h3]
 unfold qZ at h
 rw[if_neg h4,if_neg h1,if_neg h2,if_neg h3] at h
 obtain⟨x,h5,h6,h7⟩:=Spn.tQ (Prod.ext rfl h:Spn.ofZ n.op 0 0 ((bY n).map fun p=>S.getD p.toNat (0,0))=((_,_),0)) (hI.ins (bY n) fun p hp=>(hn.prt p hp).2)
 have hk:(pR f d R n).k=0/\(pR f d R n).s=0/\Cde.iE X (pR f d R n)=(bY n).map fun p=>V.getD p.toNat 0:=by
  unfold Cde.iE Cde.dL Cde.dE Cde.abc
  rw[oP,vI]
  unfold pR
  rcases rR hn h4 with⟨e,h⟩|⟨h5,e,hq⟩|⟨h5,e,hq⟩|⟨h5,e,hq⟩
  ·omega
  ·rw[hq] at hv2 ⊢
   rw[e,if_pos rfl]
   refine⟨rfl,rfl,?_⟩
   show [X.getD (sI R n.a).toNat 0]=[V.getD n.a.toNat 0]
   rw[hv2 n.a (by simp)]
  ·rw[hq] at hv2 ⊢
   rw[e,if_neg (by decide),if_pos rfl]
   refine⟨rfl,rfl,?_⟩
   show [X.getD (sI R n.a).toNat 0,X.getD (sI R n.b).toNat 0]=[V.getD n.a.toNat 0,V.getD n.b.toNat 0]
   rw[hv2 n.a (by simp),hv2 n.b (by simp)]
  ·rw[hq] at hv2 ⊢
   rw[e,if_neg (by decide),if_neg (by decide),if_pos rfl]
   refine⟨rfl,rfl,?_⟩
   show [X.getD (sI R n.a).toNat 0,X.getD (sI R n.b).toNat 0,X.getD (sI R n.c).toNat 0]=[V.getD n.a.toNat 0,V.getD n.b.toNat 0,V.getD n.c.toNat 0]
   rw[hv2 n.a (by simp),hv2 n.b (by simp),hv2 n.c (by simp)]
 rw[hk.1,hk.2.1,hk.2.2]
 unfold opV
 rw[h5]
theorem Lv.all {f d:Int}{v:Wd}{BS:List Int}(hF:Fits f d v):∀(B A:List Nd) (V X:List Int) (s:List Int × List Cde.In) (S T:dK),rG V S->S.length=A.length->Lw A s.1 s.2->Lv f d v V s.1 s.2 X->Wl BS A.length B->(∀ n ∈ B,n.op=3->∃ q,Knd.lW f d (jL n)=some q)->oC f d BS B S=(T,0)->∃ X',Lv f d v (vaR f d v BS B V) (B.foldl (yU f d BS) s).1 (B.foldl (yU f d BS) s).2 X'
 | [],A,V,X,s,S,T,hI,hS,hw,hv,_,_,h=>⟨X,hv⟩
 | n::B,A,V,X,s,S,T,hI,hS,hw,hv,hl,ha,h=>by
  simp only[oC] at h
  split at h
  ·rename_i h1
   have hn:=hl.1
   rw[<-hS] at hn
   have hVl:=hI.1
   have hRl:=hw.len
   obtain⟨a,b,c⟩:=aWj hF hI hn (ha n (by simp)) h1
   have hlw:=hw.step (f:=f) (d:=d) (BS:=BS) hl.1 (ha n (by simp))
   have hlv:∃ X',Lv f d v (V++[zL f d v BS V n]) (yU f d BS s n).1 (yU f d BS s n).2 X':=by
    unfold yU
    by_cases h4:n.op=4
    ·rw[if_pos h4]
     refine⟨X,hv.run,hv.len,fun j hj=>?_⟩
     simp only[List.length_append,List.length_cons,List.length_nil] at hj
     by_cases e:j < s.1.length
     ·rw[bD (by omega),bD e];exact hv.val j e
     ·obtain rfl:j=s.1.length:=by omega
      rw[bN,show s.1.length=V.length by omega,bN]
      unfold zL
      rw[if_pos h4]
      exact hv.val _ (by have:=(hn.use h4).2.2.2;omega)
    ·rw[if_neg h4]
     have e1:=aUp (BS:=BS) (R:=s.1) hF hI (by omega) hn h4 (ha n (by simp)) h1 hv.val
     refine⟨X++[zL f d v BS V n],?_,by simp[hv.len],fun j hj=>?_⟩
     ·rw[Cde.eG,hv.run]
      unfold Cde.tL
      simp only[if_true]
      rw[e1,if_pos rfl]
     ·simp only[List.length_append,List.length_cons,List.length_nil] at hj
      by_cases e:j < s.1.length
      ·have hr:=hw.reg j (by omega)
       rw[bD (by omega),bD e,bD (by rw[hv.len];exact hr.2)]
       exact hv.val j e
      ·obtain rfl:j=s.1.length:=by omega
       rw[bN,show s.1.length=V.length by omega,bN,Int.toNat_natCast,<-hv.len,bN]
   obtain⟨X',hv'⟩:=hlv
   exact Lv.all hF B (A++[n]) _ X' (yU f d BS s n) _ T (hI.snoc a b c) (by simp[hS]) hlw hv' (by simpa using hl.2) (fun m hm=>ha m (by simp[hm])) h
  ·rename_i h1;exact absurd (congrArg Prod.snd h) h1
theorem aL9 {NM:List aQ}{NS:List Nd}(h:nH f d NM BS NS root=0)(hF:Fits f d v):∃ X,Lv f d v (vaR f d v BS NS []) (tK f d BS NS).1 (tK f d BS NS).2 X:=by
 obtain⟨a1,a2,a3,a4,-⟩:=rY.1 h
 obtain⟨es,ex,hD⟩:=jX.1 a2
 exact Lv.all hF NS [] [] [] ([],[]) [] _ ⟨rfl,fun i hi=>by simp at hi⟩ rfl aBx ⟨rfl,rfl,fun j hj=>by simp at hj⟩ hD.wl (fun n hn h3=>wI h hn h3) (Prod.ext rfl a4)
structure LoV where
 er:Int
 f:Int
 d:Int
 I:List Cde.In
 o:Int
noncomputable def loV (f d:Int)(NM:List aQ)(BS:List Int)(NS:List Nd)(root:Int):LoV :=
 if nH f d NM BS NS root=0 then⟨0,f,d,(tK f d BS NS).2,(tK f d BS NS).1.getD root.toNat 0⟩ else⟨nH f d NM BS NS root,0,0,[],0⟩
def LoP (w:World)(Z:LoV)(e:Ending)(W':World):Prop :=
 ∃ a c,e=.returned (.tuple #[.agg (Cde.cd Z.f Z.d a Z.I.length c Z.o),.int .i64 Z.er])/\W'.ownsRow w.heap.size 41 6 (.slice a Z.I.length c) Z.I.length (Cde.bU Z.I)/\Below w.heap.size w W'
end Go.Proofs.YtjmfboegnmogdaaGreat
namespace Go.Proofs.YtjmfboegnmogdaaGreat
open Go.RowKit Go.IntWalk Lx Pz
variable {V W:World} {b:Nat} {t:TypeId}
theorem aBs (W:World)(o:Obj)(t:TypeId)(cs:Array Value):aB ((W.alloc o).alloc (.cells cs t)) (W.heap.size+1) t cs:=by
 have:=aB.new (W.alloc o) t cs
 rwa[World.size_alloc] at this
theorem aFq (W:World)(o p:Obj)(t:TypeId)(cs:Array Value):aB (((W.alloc o).alloc p).alloc (.cells cs t)) (W.heap.size+1+1) t cs:=by
 have:=aB.new ((W.alloc o).alloc p) t cs
 simp only[World.size_alloc] at this
 exact this
theorem aT2 (W:World)(o p q:Obj)(t:TypeId)(cs:Array Value):aB ((((W.alloc o).alloc p).alloc q).alloc (.cells cs t)) (W.heap.size+1+1+1) t cs:=by
 have:=aB.new (((W.alloc o).alloc p).alloc q) t cs
 simp only[World.size_alloc] at this
 exact this
theorem kC {n:Nd}(h:aB W b t (dZ n)):at9 W b 0 n :=
 ⟨h.cell 0 rfl,h.cell 1 rfl,h.cell 2 rfl,h.cell 3 rfl,h.cell 4 rfl,h.cell 5 rfl,h.cell 6 rfl,h.cell 7 rfl,h.cell 8 rfl⟩
theorem zG (f d:Int)(n:Nd)(hw:(jL n).wf)(W:World) :
  Calls Tryz.prog 64 #[.agg (cK f d),.agg (dZ n)] W fun e W'=>e=.returned (.int .i64 (loK f d n))/\Below W.heap.size W W':=by
 have HB:=aA (bel (aC W (.cells (cK f d) 23)) (aC (W.alloc (.cells (cK f d) 23)) (.cells (dZ n) 93)))
 unfold loK
 by_cases h3:n.op=3
 ·rw[if_pos h3]
  have q3:(n.op != 3)=false:=by simpa using h3
  have HN:=aA fun W=>Knd.iZ f d (jL n) hw W
  unfold Knd.aMu at HN
  generalize Knd.lW f d (jL n)=Z at *
  clear h3
  go_enter Tryz.func64,Tryz.ntmps64
  go_wp2_with fail
  refine(HN.o _).mono ?_
  rintro e V1 ⟨rfl,hb⟩
  have HB1:=aA (bel HB.o hb)
  clear hb
  go_wp2_with fail
  go_ret
  exact⟨rfl,HB1.o⟩
 ·rw[if_neg h3]
  have q3:(n.op != 3)=true:=by simpa using h3
  clear h3
  go_enter Tryz.func64,Tryz.ntmps64
  go_wp2_with fail
  go_ret
  exact⟨rfl,HB.o⟩
theorem aQj {f d:Int}{BS D Z:List Int}{n:Nd}(hn:Wn BS D.length n)(h4:n.op≠4):pR f d (D++Z) n=pR f d D n:=by
 have hp:∀ p ∈ bY n,sI (D++Z) p=sI D p:=fun p h=>kR (hn.prt p h).2
 unfold pR
 rcases rR hn h4 with⟨e,-⟩|⟨-,e,hq⟩|⟨-,e,hq⟩|⟨-,e,hq⟩
 ·rw[e];rfl
 ·rw[hq] at hp
  rw[e,if_pos rfl,if_pos rfl,hp n.a (by simp)]
 ·rw[hq] at hp
  rw[e,if_neg (by decide),if_pos rfl,if_neg (by decide),if_pos rfl,hp n.a (by simp),hp n.b (by simp)]
 ·rw[hq] at hp
  rw[e,if_neg (by decide),if_neg (by decide),if_pos rfl,if_neg (by decide),if_neg (by decide),if_pos rfl,hp n.a (by simp),hp n.b (by simp),hp n.c (by simp)]
theorem aLy {a:Option Addr}{n c:Nat}{L:List Int}(h:Iz W a n c L)(h0:0 < n):∃ b off,a=some ⟨b,off,none⟩/\b < W.heap.size/\∀ i,i < n->W.cell? ⟨b,off+i,none⟩=some (.int .i64 (L.getD i 0)):=by
 rcases h.cell with h|h
 ·omega
 ·exact h
abbrev in0:Array Value:=#[.int .i64 0,.int .i64 0,.int .i64 0,.int .i64 0,.int .i64 0,.int .i64 0]
theorem vS {w:World}{p0 p1 p2 p3 p4 p5:Value}(h:aB V b t #[p0,p1,p2,p3,p4,p5])(hB:Below w.heap.size w V)(hb:w.heap.size<=b)(x0 x1 x2 x3 x4 x5:Value) :
  aB ((((((V.setCell ⟨b,0,none⟩ x0).setCell ⟨b,1,none⟩ x1).setCell ⟨b,2,none⟩ x2).setCell ⟨b,3,none⟩ x3).setCell ⟨b,4,none⟩ x4).setCell ⟨b,5,none⟩ x5) b t #[x0,x1,x2,x3,x4,x5] /\
  Below w.heap.size w ((((((V.setCell ⟨b,0,none⟩ x0).setCell ⟨b,1,none⟩ x1).setCell ⟨b,2,none⟩ x2).setCell ⟨b,3,none⟩ x3).setCell ⟨b,4,none⟩ x4).setCell ⟨b,5,none⟩ x5) :=
 ⟨(((((h.set 0 x0).set 1 x1).set 2 x2).set 3 x3).set 4 x4).set 5 x5,(((((hB.setCell (p:=⟨b,0,none⟩) hb _).setCell (p:=⟨b,1,none⟩) hb _).setCell (p:=⟨b,2,none⟩) hb _).setCell (p:=⟨b,3,none⟩) hb _).setCell (p:=⟨b,4,none⟩) hb _).setCell (p:=⟨b,5,none⟩) hb _⟩
theorem pF {p0 p1 p2 p3 p4 p5:Value}(h:aB W b t #[p0,p1,p2,p3,p4,p5]):W.cell? ⟨b,0,none⟩=some p0/\W.cell? ⟨b,1,none⟩=some p1/\W.cell? ⟨b,2,none⟩=some p2/\W.cell? ⟨b,3,none⟩=some p3/\W.cell? ⟨b,4,none⟩=some p4/\W.cell? ⟨b,5,none⟩=some p5 /\
  W.frozen? ⟨b,0,none⟩=false/\W.frozen? ⟨b,1,none⟩=false/\W.frozen? ⟨b,2,none⟩=false/\W.frozen? ⟨b,3,none⟩=false/\W.frozen? ⟨b,4,none⟩=false/\W.frozen? ⟨b,5,none⟩=false :=
 ⟨h.cell 0 rfl,h.cell 1 rfl,h.cell 2 rfl,h.cell 3 rfl,h.cell 4 rfl,h.cell 5 rfl,h.frozen 0,h.frozen 1,h.frozen 2,h.frozen 3,h.frozen 4,h.frozen 5⟩
structure Ld (W V:World)(kd nd:Array Value)(ms:Array Value):Prop where
 k:aB V W.heap.size 23 kd
 n:aB V (W.heap.size+1) 93 nd
 r:aB V (W.heap.size+1+1) 41 in0
 m:aB V (W.heap.size+1+1+1) 41 ms
 lo:Below W.heap.size W V
theorem Ld.below {W V V':World}{kd nd ms:Array Value}(h:Ld W V kd nd ms)(hb:Below V.heap.size V V'):Ld W V' kd nd ms:=⟨h.k.below hb,h.n.below hb,h.r.below hb,h.m.below hb,bel h.lo hb⟩
theorem Ld.put {kd nd ms:Array Value}(h:Ld W V kd nd ms)(i:Nat)(x:Value):Ld W (V.setCell ⟨W.heap.size+1+1+1,i,none⟩ x) kd nd (ms.setIfInBounds i x) :=
 ⟨h.k.other (p:=⟨W.heap.size+1+1+1,i,none⟩) (show W.heap.size≠W.heap.size+1+1+1 by omega) _,h.n.other (p:=⟨W.heap.size+1+1+1,i,none⟩) (show W.heap.size+1≠W.heap.size+1+1+1 by omega) _,h.r.other (p:=⟨W.heap.size+1+1+1,i,none⟩) (show W.heap.size+1+1≠W.heap.size+1+1+1 by omega) _,h.m.set i x,h.lo.setCell (p:=⟨W.heap.size+1+1+1,i,none⟩) (show W.heap.size<=W.heap.size+1+1+1 by omega) _⟩
abbrev ms0 (op:Int):Array Value:=#[.int .i64 op,.int .i64 0,.int .i64 0,.int .i64 0,.int .i64 0,.int .i64 0]
theorem aB8 (f d:Int){n:Nd}{BS:List Int}{i rl rc:Nat}{ra:Option Addr}{R:List Int}(hn:Wn BS i n)(h4:n.op≠4)(hR:Iz W ra rl rc R)(hi:i<=rl) :
  Calls Tryz.prog 36 #[.agg (cK f d),.agg (dZ n),.slice ra rl rc] W fun e W'=>e=.returned (.agg (Cde.ia (pR f d R n)))/\Below W.heap.size W W':=by
 have HA:=aA fun W=>Spn.bI n.op W
 rw[vI] at HA
 have HK:=aA fun W=>zG f d n hn.wf W
 have hb1:=aC W (.cells (cK f d) 23)
 have hb2:=bel hb1 (aC (W.alloc (.cells (cK f d) 23)) (.cells (dZ n) 93))
 have hb3:=bel hb2 (aC ((W.alloc (.cells (cK f d) 23)).alloc (.cells (dZ n) 93)) (.cells in0 41))
 have hb4:=bel hb3 (aC (((W.alloc (.cells (cK f d) 23)).alloc (.cells (dZ n) 93)).alloc (.cells in0 41)) (.cells (ms0 n.op) 41))
 have HL0:Hid (Ld W ((((W.alloc (.cells (cK f d) 23)).alloc (.cells (dZ n) 93)).alloc (.cells in0 41)).alloc (.cells (ms0 n.op) 41)) (cK f d) (dZ n) (ms0 n.op)) :=
  aA ⟨((aB.new W 23 (cK f d)).alloc (.cells (dZ n) 93)).alloc (.cells in0 41) |>.alloc (.cells (ms0 n.op) 41),((aBs W (.cells (cK f d) 23) 93 (dZ n)).alloc (.cells in0 41)).alloc (.cells (ms0 n.op) 41),
   (aFq W (.cells (cK f d) 23) (.cells (dZ n) 93) 41 in0).alloc (.cells (ms0 n.op) 41),aT2 W (.cells (cK f d) 23) (.cells (dZ n) 93) (.cells in0 41) 41 (ms0 n.op),hb4⟩
 have HRI:=aA (hR.later hb4)
 have HRW:=aA hR
 have hp:=hn.prt
 have hf:=rR hn h4
 clear hb1 hb2 hb3 hb4 hR hn
 unfold pR
 rcases hf with⟨e,-⟩|⟨-,e,hq⟩|⟨-,e,hq⟩|⟨-,e,hq⟩
 ·rw[e,if_neg (by decide),if_neg (by decide),if_neg (by decide)]
  rw[e] at HA
  generalize loK f d n=z at *
  clear e h4 hp
  go_enter Tryz.func36,Tryz.ntmps36
  go_wp2_with fail
  refine(HA.o _).mono ?_
  rintro e V1 ⟨rfl,rfl⟩
  obtain⟨V,hV⟩:∃ V,(((W.alloc (.cells (cK f d) 23)).alloc (.cells (dZ n) 93)).alloc (.cells in0 41)).alloc (.cells (ms0 n.op) 41)=V:=⟨_,rfl⟩
  rw[hV] at HL0 HRI ⊢
  clear hV HA
  obtain⟨k0,k1,-,-⟩:=aR HL0.o.k
  obtain⟨e0,e1,e2,e3,e4,e5,e6,e7,e8⟩:=kC HL0.o.n
  go_wp2_with fail
  refine(HK.o _).mono ?_
  rintro e V1 ⟨rfl,hb⟩
  have HL1:=aA (HL0.o.below hb)
  obtain⟨m0,m1,m2,m3,m4,m5,y0,y1,y2,y3,y4,y5⟩:=pF HL1.o.m
  obtain⟨r0,r1,r2,r3,r4,r5,x0,x1,x2,x3,x4,x5⟩:=pF HL1.o.r
  clear hb k0 k1 e0 e1 e2 e3 e4 e5 e6 e7 e8 HL0
  go_wp2_with fail
  have HL2:=aA (HL1.o.put 4 (.int .i64 z))
  obtain⟨hc,hb⟩:=vS HL2.o.r HL2.o.lo (by omega) (.int .i64 n.op) (.int .i64 0) (.int .i64 0) (.int .i64 0) (.int .i64 z) (.int .i64 0)
  have c0:=hc.cell 0 rfl
  have c1:=hc.cell 1 rfl
  have c2:=hc.cell 2 rfl
  have c3:=hc.cell 3 rfl
  have c4:=hc.cell 4 rfl
  have c5:=hc.cell 5 rfl
  exact bodyPost_ret (v:=.agg #[.int .i64 n.op,.int .i64 0,.int .i64 0,.int .i64 0,.int .i64 z,.int .i64 0]) (by simp[results,Tryz.results36,go_sem,c0,c1,c2,c3,c4,c5]) rfl ⟨rfl,hb⟩
 ·rw[e,if_pos rfl]
  rw[e] at HA
  rw[hq] at hp
  clear e h4 hq HK
  have ha:=hp n.a (by simp)
  obtain⟨pa,hpa⟩:∃ q:Nat,n.a=(q:Int):=⟨n.a.toNat,by omega⟩
  unfold sI
  rw[hpa]
  simp only[Int.toNat_natCast]
  rw[hpa] at ha
  simp only[Int.toNat_natCast] at ha
  clear hp
  obtain⟨b,off,rfl,hlb,hcw⟩:=aLy HRW.o (by omega)
  have hcv:=(HRI.o).cell
  have hne:b≠W.heap.size+1+1+1:=by omega
  obtain⟨za,hza⟩:∃ z,R.getD pa 0=z:=⟨_,rfl⟩
  rw[hza]
  go_enter Tryz.func36,Tryz.ntmps36
  go_wp2_with fail
  refine(HA.o _).mono ?_
  rintro e V1 ⟨rfl,rfl⟩
  obtain⟨V,hV⟩:∃ V,(((W.alloc (.cells (cK f d) 23)).alloc (.cells (dZ n) 93)).alloc (.cells in0 41)).alloc (.cells (ms0 n.op) 41)=V:=⟨_,rfl⟩
  rw[hV] at HL0 HRI hcv ⊢
  clear hV HA hcw
  obtain⟨e0,e1,e2,e3,e4,e5,e6,e7,e8⟩:=kC HL0.o.n
  rw[hpa] at e1
  obtain⟨hcx⟩:Nonempty (∀ i,i < rl->V.cell? ⟨b,off+i,none⟩=some (.int .i64 (R.getD i 0))):=by
   rcases hcv with h|⟨b',off',h1,-,h2⟩
   ·omega
   ·cases h1;exact⟨h2⟩
  have ca:=hcx pa (by omega)
  rw[hza] at ca
  have ia:(pa:Int) < rl:=by omega
  have ja:(0:Int)<=pa:=by omega
  obtain⟨m0,m1,m2,m3,m4,m5,y0,y1,y2,y3,y4,y5⟩:=pF HL0.o.m
  obtain⟨r0,r1,r2,r3,r4,r5,x0,x1,x2,x3,x4,x5⟩:=pF HL0.o.r
  clear hcx hcv hlb HRI HRW hpa ha hza
  go_wp2_with fail
  have HL2:=aA (HL0.o.put 1 (.int .i64 za))
  obtain⟨hc,hb⟩:=vS HL2.o.r HL2.o.lo (by omega) (.int .i64 n.op) (.int .i64 za) (.int .i64 0) (.int .i64 0) (.int .i64 0) (.int .i64 0)
  have c0:=hc.cell 0 rfl
  have c1:=hc.cell 1 rfl
  have c2:=hc.cell 2 rfl
  have c3:=hc.cell 3 rfl
  have c4:=hc.cell 4 rfl
  have c5:=hc.cell 5 rfl
  exact bodyPost_ret (v:=.agg #[.int .i64 n.op,.int .i64 za,.int .i64 0,.int .i64 0,.int .i64 0,.int .i64 0]) (by simp[results,Tryz.results36,go_sem,c0,c1,c2,c3,c4,c5]) rfl ⟨rfl,hb⟩
 ·rw[e,if_neg (by decide),if_pos rfl]
  rw[e] at HA
  rw[hq] at hp
  clear e h4 hq HK
  have ha:=hp n.a (by simp)
  have hb:=hp n.b (by simp)
  obtain⟨pa,hpa⟩:∃ q:Nat,n.a=(q:Int):=⟨n.a.toNat,by omega⟩
  obtain⟨pb,hpb⟩:∃ q:Nat,n.b=(q:Int):=⟨n.b.toNat,by omega⟩
  unfold sI
  rw[hpa,hpb]
  simp only[Int.toNat_natCast]
  rw[hpa] at ha
  rw[hpb] at hb
  simp only[Int.toNat_natCast] at ha hb
  clear hp
  obtain⟨b,off,rfl,hlb,hcw⟩:=aLy HRW.o (by omega)
  have hcv:=(HRI.o).cell
  have hne:b≠W.heap.size+1+1+1:=by omega
  obtain⟨za,hza⟩:∃ z,R.getD pa 0=z:=⟨_,rfl⟩
  obtain⟨zb,hzb⟩:∃ z,R.getD pb 0=z:=⟨_,rfl⟩
  rw[hza,hzb]
  go_enter Tryz.func36,Tryz.ntmps36
  go_wp2_with fail
  refine(HA.o _).mono ?_
  rintro e V1 ⟨rfl,rfl⟩
  obtain⟨V,hV⟩:∃ V,(((W.alloc (.cells (cK f d) 23)).alloc (.cells (dZ n) 93)).alloc (.cells in0 41)).alloc (.cells (ms0 n.op) 41)=V:=⟨_,rfl⟩
  rw[hV] at HL0 HRI hcv ⊢
  clear hV HA hcw
  obtain⟨e0,e1,e2,e3,e4,e5,e6,e7,e8⟩:=kC HL0.o.n
  rw[hpa] at e1
  rw[hpb] at e2
  obtain⟨hcx⟩:Nonempty (∀ i,i < rl->V.cell? ⟨b,off+i,none⟩=some (.int .i64 (R.getD i 0))):=by
   rcases hcv with h|⟨b',off',h1,-,h2⟩
   ·omega
   ·cases h1;exact⟨h2⟩
  have ca:=hcx pa (by omega)
  rw[hza] at ca
  have ia:(pa:Int) < rl:=by omega
  have ja:(0:Int)<=pa:=by omega
  have cb:=hcx pb (by omega)
  rw[hzb] at cb
  have ib:(pb:Int) < rl:=by omega
  have jb:(0:Int)<=pb:=by omega
  obtain⟨m0,m1,m2,m3,m4,m5,y0,y1,y2,y3,y4,y5⟩:=pF HL0.o.m
  obtain⟨r0,r1,r2,r3,r4,r5,x0,x1,x2,x3,x4,x5⟩:=pF HL0.o.r
  clear hcx hcv hlb HRI HRW hpa ha hza hpb hb hzb
  go_wp2_with fail
  have HL2:=aA ((HL0.o.put 2 (.int .i64 zb)).put 1 (.int .i64 za))
  obtain⟨hc,hb⟩:=vS HL2.o.r HL2.o.lo (by omega) (.int .i64 n.op) (.int .i64 za) (.int .i64 zb) (.int .i64 0) (.int .i64 0) (.int .i64 0)
  have c0:=hc.cell 0 rfl
  have c1:=hc.cell 1 rfl
  have c2:=hc.cell 2 rfl
  have c3:=hc.cell 3 rfl
  have c4:=hc.cell 4 rfl
  have c5:=hc.cell 5 rfl
  exact bodyPost_ret (v:=.agg #[.int .i64 n.op,.int .i64 za,.int .i64 zb,.int .i64 0,.int .i64 0,.int .i64 0]) (by simp[results,Tryz.results36,go_sem,c0,c1,c2,c3,c4,c5]) rfl ⟨rfl,hb⟩
 ·rw[e,if_neg (by decide),if_neg (by decide),if_pos rfl]
  rw[e] at HA
  rw[hq] at hp
  clear e h4 hq HK
  have ha:=hp n.a (by simp)
  have hb:=hp n.b (by simp)
  have hc:=hp n.c (by simp)
  obtain⟨pa,hpa⟩:∃ q:Nat,n.a=(q:Int):=⟨n.a.toNat,by omega⟩
  obtain⟨pb,hpb⟩:∃ q:Nat,n.b=(q:Int):=⟨n.b.toNat,by omega⟩
  obtain⟨pc,hpc⟩:∃ q:Nat,n.c=(q:Int):=⟨n.c.toNat,by omega⟩
  unfold sI
  rw[hpa,hpb,hpc]
  simp only[Int.toNat_natCast]
  rw[hpa] at ha
  rw[hpb] at hb
  rw[hpc] at hc
  simp only[Int.toNat_natCast] at ha hb hc
  clear hp
  obtain⟨b,off,rfl,hlb,hcw⟩:=aLy HRW.o (by omega)
  have hcv:=(HRI.o).cell
  have hne:b≠W.heap.size+1+1+1:=by omega
  obtain⟨za,hza⟩:∃ z,R.getD pa 0=z:=⟨_,rfl⟩
  obtain⟨zb,hzb⟩:∃ z,R.getD pb 0=z:=⟨_,rfl⟩
  obtain⟨zc,hzc⟩:∃ z,R.getD pc 0=z:=⟨_,rfl⟩
  rw[hza,hzb,hzc]
  go_enter Tryz.func36,Tryz.ntmps36
  go_wp2_with fail
  refine(HA.o _).mono ?_
  rintro e V1 ⟨rfl,rfl⟩
  obtain⟨V,hV⟩:∃ V,(((W.alloc (.cells (cK f d) 23)).alloc (.cells (dZ n) 93)).alloc (.cells in0 41)).alloc (.cells (ms0 n.op) 41)=V:=⟨_,rfl⟩
  rw[hV] at HL0 HRI hcv ⊢
  clear hV HA hcw
  obtain⟨e0,e1,e2,e3,e4,e5,e6,e7,e8⟩:=kC HL0.o.n
  rw[hpa] at e1
  rw[hpb] at e2
  rw[hpc] at e3
  obtain⟨hcx⟩:Nonempty (∀ i,i < rl->V.cell? ⟨b,off+i,none⟩=some (.int .i64 (R.getD i 0))):=by
   rcases hcv with h|⟨b',off',h1,-,h2⟩
   ·omega
   ·cases h1;exact⟨h2⟩
  have ca:=hcx pa (by omega)
  rw[hza] at ca
  have ia:(pa:Int) < rl:=by omega
  have ja:(0:Int)<=pa:=by omega
  have cb:=hcx pb (by omega)
  rw[hzb] at cb
  have ib:(pb:Int) < rl:=by omega
  have jb:(0:Int)<=pb:=by omega
  have cc:=hcx pc (by omega)
  rw[hzc] at cc
  have ic:(pc:Int) < rl:=by omega
  have jc:(0:Int)<=pc:=by omega
  obtain⟨m0,m1,m2,m3,m4,m5,y0,y1,y2,y3,y4,y5⟩:=pF HL0.o.m
  obtain⟨r0,r1,r2,r3,r4,r5,x0,x1,x2,x3,x4,x5⟩:=pF HL0.o.r
  clear hcx hcv hlb HRI HRW hpa ha hza hpb hb hzb hpc hc hzc
  go_wp2_with fail
  have HL2:=aA (((HL0.o.put 3 (.int .i64 zc)).put 2 (.int .i64 zb)).put 1 (.int .i64 za))
  obtain⟨hc,hb⟩:=vS HL2.o.r HL2.o.lo (by omega) (.int .i64 n.op) (.int .i64 za) (.int .i64 zb) (.int .i64 zc) (.int .i64 0) (.int .i64 0)
  have c0:=hc.cell 0 rfl
  have c1:=hc.cell 1 rfl
  have c2:=hc.cell 2 rfl
  have c3:=hc.cell 3 rfl
  have c4:=hc.cell 4 rfl
  have c5:=hc.cell 5 rfl
  exact bodyPost_ret (v:=.agg #[.int .i64 n.op,.int .i64 za,.int .i64 zb,.int .i64 zc,.int .i64 0,.int .i64 0]) (by simp[results,Tryz.results36,go_sem,c0,c1,c2,c3,c4,c5]) rfl ⟨rfl,hb⟩
end Go.Proofs.YtjmfboegnmogdaaGreat
