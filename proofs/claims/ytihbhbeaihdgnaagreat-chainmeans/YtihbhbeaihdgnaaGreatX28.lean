import Derived.Test.YtihbhbeaihdgnaaGreatXH
import Derived.Test.YtihbhbeaihdgnaaGreatX27
import Derived.Test.YtihbhbeaihdgnaaGreatX22
set_option maxRecDepth 100000
set_option maxHeartbeats 32000000
set_option linter.unusedVariables false
namespace Go.Proofs.YtihbhbeaihdgnaaGreat
open Go.RowKit Lx Pz
variable {i:Nat} {BS R:List Int} {d f root:Int} {v:Wd}
def sI (R:List Int)(p:Int):Int:=R.getD p.toNat 0
def loK (f d:Int)(n:Nd):Int:=if n.op=3 then(((Knd.lV f d (jJ n)).getD 0:Nat):Int) else n.k
def pJ (f d:Int)(R:List Int)(n:Nd):Cde.In :=
 if mE n.op=1 then⟨n.op,sI R n.a,0,0,0,0⟩ else if mE n.op=2 then⟨n.op,sI R n.a,sI R n.b,0,0,0⟩ else
 if mE n.op=3 then⟨n.op,sI R n.a,sI R n.b,sI R n.c,0,0⟩ else⟨n.op,0,0,0,loK f d n,0⟩
def yS (f d:Int)(BS:List Int)(s:List Int × List Cde.In)(n:Nd):List Int × List Cde.In :=
 if n.op=4 then(s.1++[sI s.1 (BS.getD n.k.toNat 0)],s.2) else(s.1++[(s.2.length:Int)],s.2++[pJ f d s.1 n])
def tL (f d:Int)(BS:List Int)(NS:List Nd):List Int × List Cde.In:=NS.foldl (yS f d BS) ([],[])
theorem aLz (f d:Int)(BS:List Int)(NS:List Nd)(n:Nd):tL f d BS (NS++[n])=yS f d BS (tL f d BS NS) n:=by simp[tL]
def cn (NS:List Nd):Nat:=(NS.filter fun n=>n.op != 4).length
theorem aG5 (NS:List Nd)(n:Nd):cn (NS++[n])=if n.op=4 then cn NS else cn NS+1:=by
 unfold cn
 rw[List.filter_append,List.length_append]
 split
 ·rename_i h;simp[h]
 ·rename_i h;simp[h]
theorem oL (f d:Int)(R:List Int)(n:Nd):(pJ f d R n).op=n.op:=by
 unfold pJ
 repeat' split
 all_goals rfl
theorem aQu {L:List Cde.In}{x:Cde.In}:Cde.dX (L++[x]) L.length=Cde.dX L L.length:=by
 unfold Cde.dX
 rw[Bool.eq_iff_iff,List.all_eq_true,List.all_eq_true]
 have e:∀ i,i < L.length->(L++[x]).getD i Cde.i0=L.getD i Cde.i0:=fun i hi=>by
  rw[List.getD_eq_getElem?_getD,List.getElem?_append_left hi,<-List.getD_eq_getElem?_getD]
 constructor
 ·intro h i hi
  have:=h i hi
  rwa[e i (List.mem_range.1 hi)] at this
 ·intro h i hi
  rw[e i (List.mem_range.1 hi)]
  exact h i hi
theorem bN {α:Type}(L:List α)(x z:α):(L++[x]).getD L.length z=x:=by simp[List.getD_eq_getElem?_getD]
theorem bC {α:Type}{S Z:List α}{z:α}(h:i < S.length):(S++Z).getD i z=S.getD i z:=by
 rw[List.getD_eq_getElem?_getD,List.getElem?_append_left h,<-List.getD_eq_getElem?_getD]
theorem rO {n:Nd}(hn:Wn BS i n)(h4:n.op≠4):(mE n.op=0/\(n.op=1\/n.op=2\/n.op=3))\/(5<=n.op/\mE n.op=1/\bV n=[n.a])\/(5<=n.op/\mE n.op=2/\bV n=[n.a,n.b])\/(5<=n.op/\mE n.op=3/\bV n=[n.a,n.b,n.c]):=by
 have h1:=hn.ar h4
 have h2:=hn.pr
 have lo:=hn.lo
 have hi:=hn.hi
 have hp:bV n=[n.a,n.b,n.c].take (mE n.op).toNat:=by unfold bV;rw[h1]
 rw[hp]
 by_cases a:n.op<=3
 ·refine .inl ⟨?_,by omega⟩
  unfold mE;rw[if_pos (by omega)]
 by_cases b:n.op<=7
 ·have e:mE n.op=1:=by unfold mE;rw[if_neg (by omega),if_pos (by omega)]
  exact .inr (.inl ⟨by omega,e,by rw[e];rfl⟩)
 by_cases c:n.op<=25
 ·have e:mE n.op=2:=by unfold mE;rw[if_neg (by omega),if_neg (by omega),if_neg (by omega),if_pos (by omega)]
  exact .inr (.inr (.inl ⟨by omega,e,by rw[e];rfl⟩))
 ·have e:mE n.op=3:=by unfold mE;rw[if_neg (by omega),if_neg (by omega),if_neg (by omega),if_neg (by omega),if_pos (by omega)]
  exact .inr (.inr (.inr ⟨by omega,e,by rw[e];rfl⟩))
structure Lw (NS:List Nd)(R:List Int)(I:List Cde.In):Prop where
 len:R.length=NS.length
 reg:∀ j,j < NS.length->0<=R.getD j 0/\(R.getD j 0).toNat < I.length
 ok:Cde.dX I I.length=true
 co:Cde.eH I=vK NS
 le:(I.length:Int)<=vK NS
 cnt:I.length=cn NS
 own:∀ j,j < NS.length->(NS.getD j n0).op≠4->R.getD j 0=(cn (NS.take j):Int)/\(I.getD (cn (NS.take j)) Cde.i0).op=(NS.getD j n0).op/\cn (NS.take j) < I.length
theorem aF0 {p:Knd.Plc}{q:Nat}(hq:Knd.lV f d p=some q):(q:Int) < Knd.bL f d/\Knd.bL f d<=44:=by
 have h1:=Knd.kH f d
 have h2:=aBr _ _ _ (by omega) q hq
 have h3:=Knd.aEb f d
 have h4:Knd.bL f d<=44:=by unfold Knd.bL;repeat' split <;> omega
 omega
theorem pW {r:Int}(h:0<=r)(h2:r.toNat < i):Cde.rF r true i=true:=by
 unfold Cde.rF
 rw[if_pos rfl,Spn.aO]
 omega
theorem aUa {n:Nd}{m:Nat}(hn:Wn BS R.length n)(h4:n.op≠4)(hr:∀ j,j < R.length->0<=R.getD j 0/\(R.getD j 0).toNat < m)(ha:n.op=3->∃ q,Knd.lV f d (jJ n)=some q):Cde.bB (pJ f d R n) m=true:=by
 have hp:=hn.prt
 have hr2:∀ p ∈ bV n,0<=sI R p/\(sI R p).toNat < m:=fun p h=>hr _ (hp p h).2
 have hi:=hn.hi
 unfold Cde.bB Cde.rG Cde.nG
 simp only[vG,oL,Bool.and_eq_true,decide_eq_true_eq]
 unfold pJ
 rcases rO hn h4 with⟨e,h⟩|⟨h5,e,hq⟩|⟨h5,e,hq⟩|⟨h5,e,hq⟩
 ·rw[e]
  refine⟨⟨by omega,⟨rfl,rfl⟩,rfl⟩,?_⟩
  simp only[show ¬((0:Int)=1) by decide,show ¬((0:Int)=2) by decide,show ¬((0:Int)=3) by decide,if_false]
  unfold loK
  rcases h with h|h|h
  ·rw[if_pos h,if_neg (by omega)]
   have:=hn.num h
   simp only[beq_self_eq_true,Bool.and_true]
   exact Spn.dE.2 (by omega)
  ·rw[if_neg (by omega),if_pos h,if_neg (by omega)]
   have:=hn.inp h
   simp only[beq_self_eq_true,Bool.and_true,Spn.aO]
   omega
  ·rw[if_neg (by omega),if_neg (by omega),if_pos h,if_pos h]
   obtain⟨q,hq⟩:=ha h
   have:=aF0 hq
   rw[hq]
   simp only[Option.getD_some,beq_self_eq_true,Bool.and_true,Spn.aO]
   omega
 ·rw[hq] at hr2
  rw[e,if_pos rfl,if_neg (by omega),if_neg (by omega),if_neg (by omega),if_neg (by omega),if_neg (by omega)]
  have h1:=hr2 n.a (by simp)
  exact⟨⟨by omega,⟨pW h1.1 h1.2,rfl⟩,rfl⟩,rfl⟩
 ·rw[hq] at hr2
  rw[e,if_neg (by decide),if_pos rfl,if_neg (by omega),if_neg (by omega),if_neg (by omega),if_neg (by omega),if_neg (by omega)]
  have h1:=hr2 n.a (by simp)
  have h2:=hr2 n.b (by simp)
  exact⟨⟨by omega,⟨pW h1.1 h1.2,pW h2.1 h2.2⟩,rfl⟩,rfl⟩
 ·rw[hq] at hr2
  rw[e,if_neg (by decide),if_neg (by decide),if_pos rfl,if_neg (by omega),if_neg (by omega),if_neg (by omega),if_neg (by omega),if_neg (by omega)]
  have h1:=hr2 n.a (by simp)
  have h2:=hr2 n.b (by simp)
  have h3:=hr2 n.c (by simp)
  exact⟨⟨by omega,⟨pW h1.1 h1.2,pW h2.1 h2.2⟩,pW h3.1 h3.2⟩,rfl⟩
theorem aPb (o:Int):Cde.jE o=jE o:=rfl
theorem lZ {α:Type}{A:List α}{x:α}{j:Nat}(h:j<=A.length):(A++[x]).take j=A.take j:=List.take_append_of_le_length h
theorem Lw.step {NS:List Nd}{I:List Cde.In}{n:Nd}(h:Lw NS R I)(hn:Wn BS NS.length n)(ha:n.op=3->∃ q,Knd.lV f d (jJ n)=some q):Lw (NS++[n]) (yS f d BS (R,I) n).1 (yS f d BS (R,I) n).2:=by
 have hl:=h.len
 unfold yS
 by_cases h4:n.op=4
 ·rw[if_pos h4]
  dsimp only
  have h0:jE n.op=0:=by rw[h4];rfl
  obtain⟨-,-,-,hu⟩:=hn.use h4
  refine⟨by simp[hl],fun j hj=>?_,h.ok,by rw[oD,h0,h.co];simp,by rw[oD,h0];have:=h.le;simpa using this,by rw[aG5,if_pos h4];exact h.cnt,fun j hj hj4=>?_⟩
  ·simp only[List.length_append,List.length_cons,List.length_nil] at hj
   by_cases e:j < R.length
   ·rw[bC e];exact h.reg j (by omega)
   ·obtain rfl:j=R.length:=by omega
    rw[bN]
    exact h.reg _ hu
  ·simp only[List.length_append,List.length_cons,List.length_nil] at hj
   by_cases e:j < NS.length
   ·rw[bC e] at hj4
    rw[bC (by omega),bC e,lZ (by omega)]
    exact h.own j e hj4
   ·obtain rfl:j=NS.length:=by omega
    rw[bN] at hj4
    exact absurd h4 hj4
 ·rw[if_neg h4]
  dsimp only
  have h1:1<=jE n.op:=by unfold jE;rw[if_neg h4];repeat' split <;> omega
  have hc:=h.cnt
  refine⟨by simp[hl],fun j hj=>?_,?_,by rw[oD,Cde.gD,h.co,oL,aPb],by rw[oD];have:=h.le;simp only[List.length_append,List.length_cons,List.length_nil];omega,by rw[aG5,if_neg h4];simp[hc],fun j hj hj4=>?_⟩
  ·simp only[List.length_append,List.length_cons,List.length_nil] at hj ⊢
   by_cases e:j < R.length
   ·rw[bC e];have:=h.reg j (by omega);omega
   ·obtain rfl:j=R.length:=by omega
    rw[bN]
    omega
  ·rw[show (I++[pJ f d R n]).length=I.length+1 by simp,Cde.aD6,aQu,h.ok,bN,Bool.true_and]
   exact aUa (by rw[hl];exact hn) h4 (fun j hj=>h.reg j (by omega)) ha
  ·simp only[List.length_append,List.length_cons,List.length_nil] at hj ⊢
   by_cases e:j < NS.length
   ·rw[bC e] at hj4
    obtain⟨a,b,c⟩:=h.own j e hj4
    rw[bC (by omega),bC e,lZ (by omega),bC c]
    exact⟨a,b,by omega⟩
   ·obtain rfl:j=NS.length:=by omega
    rw[bN,lZ (Nat.le_refl _),List.take_length,<-hl,bN,<-hc,bN,oL]
    exact⟨rfl,rfl,by omega⟩
theorem Lw.run {f d:Int}{BS:List Int}:∀(B A:List Nd) (s:List Int × List Cde.In),Lw A s.1 s.2->Wl BS A.length B->(∀ n ∈ B,n.op=3->∃ q,Knd.lV f d (jJ n)=some q)->Lw (A++B) (B.foldl (yS f d BS) s).1 (B.foldl (yS f d BS) s).2
 | [],A,s,h,_,_=>by simpa using h
 | n::B,A,s,h,hw,ha=>by
  have h2:=Lw.run (f:=f) (d:=d) B (A++[n]) (yS f d BS s n) (h.step hw.1 (ha n (by simp))) (by simpa using hw.2) (fun m hm=>ha m (by simp[hm]))
  simpa using h2
theorem aBu:Lw [] [] []:=⟨rfl,fun j hj=>by simp at hj,rfl,rfl,by decide,rfl,fun j hj=>by simp at hj⟩
theorem xK {NM:List aR}{NS:List Nd}(h:nD f d NM BS NS root=0):Lw NS (tL f d BS NS).1 (tL f d BS NS).2:=by
 obtain⟨es,ex,hD⟩:=jS.1 (rW.1 h).2.1
 have:=Lw.run (f:=f) (d:=d) NS [] ([],[]) aBu hD.wl (fun n hn h3=>wG h hn h3)
 rw[List.nil_append] at this
 exact this
theorem aUb {NM:List aR}{NS:List Nd}(h:nD f d NM BS NS root=0):Cde.jW f d (tL f d BS NS).2 ((tL f d BS NS).1.getD root.toNat 0)=true:=by
 obtain⟨a1,a2,a3,a4,a5,a6⟩:=rW.1 h
 have hw:=xK h
 obtain⟨r0,r1,r2⟩:=jB a2
 have h1:=hw.reg root.toNat r1
 have h2:=hw.le
 unfold Cde.jW
 simp only[Bool.and_eq_true,decide_eq_true_eq,Spn.aO]
 exact⟨⟨⟨a1,by omega,by omega⟩,by omega,by omega⟩,hw.ok⟩
structure Lv (f d:Int)(v:Wd)(V R:List Int)(I:List Cde.In)(X:List Int):Prop where
 run:Cde.oW f d v I=(0,X)
 len:X.length=I.length
 val:∀ j,j < R.length->V.getD j 0=X.getD (R.getD j 0).toNat 0
theorem aUc {V X:List Int}{S:dM}{n:Nd}(hF:Fits f d v)(hI:tH V S)(hl:R.length=S.length)(hn:Wn BS S.length n)(h4:n.op≠4)(ha:n.op=3->∃ q,Knd.lV f d (jJ n)=some q)(h:(qX f d BS S n).2=0)
  (hv:∀ j,j < R.length->V.getD j 0=X.getD (R.getD j 0).toNat 0):Cde.dA f d v X (pJ f d R n)=(zJ f d v BS V n,0):=by
 have hv2:∀ p ∈ bV n,X.getD (sI R p).toNat 0=V.getD p.toNat 0:=fun p hp=>(hv _ (by rw[hl];exact(hn.prt p hp).2)).symm
 unfold Cde.dA zJ
 rw[oL,if_neg h4]
 by_cases h1:n.op=1
 ·rw[if_pos h1,if_pos h1]
  have e:mE n.op=0:=by rw[h1];rfl
  unfold pJ loK
  rw[e,if_neg (by decide),if_neg (by decide),if_neg (by decide),if_neg (by omega)]
 rw[if_neg h1,if_neg h1]
 by_cases h2:n.op=2
 ·rw[if_pos h2,if_pos h2]
  have e:mE n.op=0:=by rw[h2];rfl
  unfold pJ loK
  rw[e,if_neg (by decide),if_neg (by decide),if_neg (by decide),if_neg (by omega)]
 rw[if_neg h2,if_neg h2]
 by_cases h3:n.op=3
 ·rw[if_pos h3,if_pos h3]
  have e:mE n.op=0:=by rw[h3];rfl
  obtain⟨q,hq⟩:=ha h3
  have:=aF0 hq
  have ek:(pJ f d R n).k=(q:Int):=by
   unfold pJ loK
   rw[e,if_neg (by decide),if_neg (by decide),if_neg (by decide),if_pos h3,hq]
   rfl
  rw[ek,if_neg (by omega),Int.toNat_natCast]
  unfold yG
  rw[hq]
  rfl
 rw[if_neg h3,if_neg h3]
 unfold qX at h
 rw[if_neg h4,if_neg h1,if_neg h2,if_neg h3] at h
 obtain⟨x,h5,h6,h7⟩:=Spn.tV (Prod.ext rfl h:Spn.ofZ n.op 0 0 ((bV n).map fun p=>S.getD p.toNat (0,0))=((_,_),0)) (hI.ins (bV n) fun p hp=>(hn.prt p hp).2)
 have hk:(pJ f d R n).k=0/\(pJ f d R n).s=0/\Cde.iA X (pJ f d R n)=(bV n).map fun p=>V.getD p.toNat 0:=by
  unfold Cde.iA Cde.dN Cde.bY Cde.abc
  rw[oL,vG]
  unfold pJ
  rcases rO hn h4 with⟨e,h⟩|⟨h5,e,hq⟩|⟨h5,e,hq⟩|⟨h5,e,hq⟩
  ·omega
  ·rw[hq] at hv2 ⊢
   rw[e,if_pos rfl]
   refine⟨rfl,rfl,?_⟩
   show [X.getD (sI R n.a).toNat 0]=[V.getD n.a.toNat 0]
   rw[hv2 n.a (by simp)]
  ·rw[hq] at hv2 ⊢
   rw[e,if_neg (by decide),if_pos rfl]
   refine⟨rfl,rfl,?_⟩
   show [X.getD (sI R n.a).toNat 0,X.getD (sI R n.b).toNat 0]=[V.getD n.a.toNat 0,V.getD n.b.toNat 0]
   rw[hv2 n.a (by simp),hv2 n.b (by simp)]
  ·rw[hq] at hv2 ⊢
   rw[e,if_neg (by decide),if_neg (by decide),if_pos rfl]
   refine⟨rfl,rfl,?_⟩
   show [X.getD (sI R n.a).toNat 0,X.getD (sI R n.b).toNat 0,X.getD (sI R n.c).toNat 0]=[V.getD n.a.toNat 0,V.getD n.b.toNat 0,V.getD n.c.toNat 0]
   rw[hv2 n.a (by simp),hv2 n.b (by simp),hv2 n.c (by simp)]
 rw[hk.1,hk.2.1,hk.2.2]
 unfold opV
 rw[h5]
theorem Lv.all {f d:Int}{v:Wd}{BS:List Int}(hF:Fits f d v):∀(B A:List Nd) (V X:List Int) (s:List Int × List Cde.In) (S T:dM),tH V S->S.length=A.length->Lw A s.1 s.2->Lv f d v V s.1 s.2 X->Wl BS A.length B->(∀ n ∈ B,n.op=3->∃ q,Knd.lV f d (jJ n)=some q)->nX f d BS B S=(T,0)->∃ X',Lv f d v (vaR f d v BS B V) (B.foldl (yS f d BS) s).1 (B.foldl (yS f d BS) s).2 X'
 | [],A,V,X,s,S,T,hI,hS,hw,hv,_,_,h=>⟨X,hv⟩
 | n::B,A,V,X,s,S,T,hI,hS,hw,hv,hl,ha,h=>by
  simp only[nX] at h
  split at h
  ·rename_i h1
   have hn:=hl.1
   rw[<-hS] at hn
   have hVl:=hI.1
   have hRl:=hw.len
   obtain⟨a,b,c⟩:=aV2 hF hI hn (ha n (by simp)) h1
   have hlw:=hw.step (f:=f) (d:=d) (BS:=BS) hl.1 (ha n (by simp))
   have hlv:∃ X',Lv f d v (V++[zJ f d v BS V n]) (yS f d BS s n).1 (yS f d BS s n).2 X':=by
    unfold yS
    by_cases h4:n.op=4
    ·rw[if_pos h4]
     refine⟨X,hv.run,hv.len,fun j hj=>?_⟩
     simp only[List.length_append,List.length_cons,List.length_nil] at hj
     by_cases e:j < s.1.length
     ·rw[bC (by omega),bC e];exact hv.val j e
     ·obtain rfl:j=s.1.length:=by omega
      rw[bN,show s.1.length=V.length by omega,bN]
      unfold zJ
      rw[if_pos h4]
      exact hv.val _ (by have:=(hn.use h4).2.2.2;omega)
    ·rw[if_neg h4]
     have e1:=aUc (BS:=BS) (R:=s.1) hF hI (by omega) hn h4 (ha n (by simp)) h1 hv.val
     refine⟨X++[zJ f d v BS V n],?_,by simp[hv.len],fun j hj=>?_⟩
     ·rw[Cde.eF,hv.run]
      unfold Cde.tN
      simp only[if_true]
      rw[e1,if_pos rfl]
     ·simp only[List.length_append,List.length_cons,List.length_nil] at hj
      by_cases e:j < s.1.length
      ·have hr:=hw.reg j (by omega)
       rw[bC (by omega),bC e,bC (by rw[hv.len];exact hr.2)]
       exact hv.val j e
      ·obtain rfl:j=s.1.length:=by omega
       rw[bN,show s.1.length=V.length by omega,bN,Int.toNat_natCast,<-hv.len,bN]
   obtain⟨X',hv'⟩:=hlv
   exact Lv.all hF B (A++[n]) _ X' (yS f d BS s n) _ T (hI.snoc a b c) (by simp[hS]) hlw hv' (by simpa using hl.2) (fun m hm=>ha m (by simp[hm])) h
  ·rename_i h1;exact absurd (congrArg Prod.snd h) h1
theorem aL2 {NM:List aR}{NS:List Nd}(h:nD f d NM BS NS root=0)(hF:Fits f d v):∃ X,Lv f d v (vaR f d v BS NS []) (tL f d BS NS).1 (tL f d BS NS).2 X:=by
 obtain⟨a1,a2,a3,a4,-⟩:=rW.1 h
 obtain⟨es,ex,hD⟩:=jS.1 a2
 exact Lv.all hF NS [] [] [] ([],[]) [] _ ⟨rfl,fun i hi=>by simp at hi⟩ rfl aBu ⟨rfl,rfl,fun j hj=>by simp at hj⟩ hD.wl (fun n hn h3=>wG h hn h3) (Prod.ext rfl a4)
structure LoV where
 er:Int
 f:Int
 d:Int
 I:List Cde.In
 o:Int
noncomputable def loV (f d:Int)(NM:List aR)(BS:List Int)(NS:List Nd)(root:Int):LoV :=
 if nD f d NM BS NS root=0 then⟨0,f,d,(tL f d BS NS).2,(tL f d BS NS).1.getD root.toNat 0⟩ else⟨nD f d NM BS NS root,0,0,[],0⟩
def LoP (w:World)(Z:LoV)(e:Ending)(W':World):Prop :=
 ∃ a c,e=.returned (.tuple #[.agg (Cde.cd Z.f Z.d a Z.I.length c Z.o),.int .i64 Z.er])/\W'.ownsRow w.heap.size 41 6 (.slice a Z.I.length c) Z.I.length (Cde.bU Z.I)/\Below w.heap.size w W'
end Go.Proofs.YtihbhbeaihdgnaaGreat
namespace Go.Proofs.YtihbhbeaihdgnaaGreat
open Go.RowKit Go.IntWalk Lx Pz
variable {V W:World} {b:Nat} {t:TypeId}
theorem aBo (W:World)(o:Obj)(t:TypeId)(cs:Array Value):aB ((W.alloc o).alloc (.cells cs t)) (W.heap.size+1) t cs:=by
 have:=aB.new (W.alloc o) t cs
 rwa[World.size_alloc] at this
theorem aFl (W:World)(o p:Obj)(t:TypeId)(cs:Array Value):aB (((W.alloc o).alloc p).alloc (.cells cs t)) (W.heap.size+1+1) t cs:=by
 have:=aB.new ((W.alloc o).alloc p) t cs
 simp only[World.size_alloc] at this
 exact this
theorem aTp (W:World)(o p q:Obj)(t:TypeId)(cs:Array Value):aB ((((W.alloc o).alloc p).alloc q).alloc (.cells cs t)) (W.heap.size+1+1+1) t cs:=by
 have:=aB.new (((W.alloc o).alloc p).alloc q) t cs
 simp only[World.size_alloc] at this
 exact this
theorem jX {n:Nd}(h:aB W b t (dY n)):at9 W b 0 n :=
 ⟨h.cell 0 rfl,h.cell 1 rfl,h.cell 2 rfl,h.cell 3 rfl,h.cell 4 rfl,h.cell 5 rfl,h.cell 6 rfl,h.cell 7 rfl,h.cell 8 rfl⟩
theorem zF (f d:Int)(n:Nd)(hw:(jJ n).wf)(W:World) :
  Calls Tryz.prog 70 #[.agg (bX f d),.agg (dY n)] W fun e W'=>e=.returned (.int .i64 (loK f d n))/\Below W.heap.size W W':=by
 have HB:=aA (bel (aC W (.cells (bX f d) 23)) (aC (W.alloc (.cells (bX f d) 23)) (.cells (dY n) 93)))
 unfold loK
 by_cases h3:n.op=3
 ·rw[if_pos h3]
  have q3:(n.op != 3)=false:=by simpa using h3
  have HN:=aA fun W=>Knd.iY f d (jJ n) hw W
  unfold Knd.aMl at HN
  generalize Knd.lV f d (jJ n)=Z at *
  clear h3
  go_enter Tryz.func70,Tryz.ntmps70
  go_wp2_with fail
  refine(HN.o _).mono ?_
  rintro e V1 ⟨rfl,hb⟩
  have HB1:=aA (bel HB.o hb)
  clear hb
  go_wp2_with fail
  go_ret
  exact⟨rfl,HB1.o⟩
 ·rw[if_neg h3]
  have q3:(n.op != 3)=true:=by simpa using h3
  clear h3
  go_enter Tryz.func70,Tryz.ntmps70
  go_wp2_with fail
  go_ret
  exact⟨rfl,HB.o⟩
theorem aP9 {f d:Int}{BS D Z:List Int}{n:Nd}(hn:Wn BS D.length n)(h4:n.op≠4):pJ f d (D++Z) n=pJ f d D n:=by
 have hp:∀ p ∈ bV n,sI (D++Z) p=sI D p:=fun p h=>kM (hn.prt p h).2
 unfold pJ
 rcases rO hn h4 with⟨e,-⟩|⟨-,e,hq⟩|⟨-,e,hq⟩|⟨-,e,hq⟩
 ·rw[e];rfl
 ·rw[hq] at hp
  rw[e,if_pos rfl,if_pos rfl,hp n.a (by simp)]
 ·rw[hq] at hp
  rw[e,if_neg (by decide),if_pos rfl,if_neg (by decide),if_pos rfl,hp n.a (by simp),hp n.b (by simp)]
 ·rw[hq] at hp
  rw[e,if_neg (by decide),if_neg (by decide),if_pos rfl,if_neg (by decide),if_neg (by decide),if_pos rfl,hp n.a (by simp),hp n.b (by simp),hp n.c (by simp)]
theorem aLr {a:Option Addr}{n c:Nat}{L:List Int}(h:Iz W a n c L)(h0:0 < n):∃ b off,a=some ⟨b,off,none⟩/\b < W.heap.size/\∀ i,i < n->W.cell? ⟨b,off+i,none⟩=some (.int .i64 (L.getD i 0)):=by
 rcases h.cell with h|h
 ·omega
 ·exact h
abbrev in0:Array Value:=#[.int .i64 0,.int .i64 0,.int .i64 0,.int .i64 0,.int .i64 0,.int .i64 0]
theorem vP {w:World}{p0 p1 p2 p3 p4 p5:Value}(h:aB V b t #[p0,p1,p2,p3,p4,p5])(hB:Below w.heap.size w V)(hb:w.heap.size<=b)(x0 x1 x2 x3 x4 x5:Value) :
  aB ((((((V.setCell ⟨b,0,none⟩ x0).setCell ⟨b,1,none⟩ x1).setCell ⟨b,2,none⟩ x2).setCell ⟨b,3,none⟩ x3).setCell ⟨b,4,none⟩ x4).setCell ⟨b,5,none⟩ x5) b t #[x0,x1,x2,x3,x4,x5] /\
  Below w.heap.size w ((((((V.setCell ⟨b,0,none⟩ x0).setCell ⟨b,1,none⟩ x1).setCell ⟨b,2,none⟩ x2).setCell ⟨b,3,none⟩ x3).setCell ⟨b,4,none⟩ x4).setCell ⟨b,5,none⟩ x5) :=
 ⟨(((((h.set 0 x0).set 1 x1).set 2 x2).set 3 x3).set 4 x4).set 5 x5,(((((hB.setCell (p:=⟨b,0,none⟩) hb _).setCell (p:=⟨b,1,none⟩) hb _).setCell (p:=⟨b,2,none⟩) hb _).setCell (p:=⟨b,3,none⟩) hb _).setCell (p:=⟨b,4,none⟩) hb _).setCell (p:=⟨b,5,none⟩) hb _⟩
theorem oV {p0 p1 p2 p3 p4 p5:Value}(h:aB W b t #[p0,p1,p2,p3,p4,p5]):W.cell? ⟨b,0,none⟩=some p0/\W.cell? ⟨b,1,none⟩=some p1/\W.cell? ⟨b,2,none⟩=some p2/\W.cell? ⟨b,3,none⟩=some p3/\W.cell? ⟨b,4,none⟩=some p4/\W.cell? ⟨b,5,none⟩=some p5 /\
  W.frozen? ⟨b,0,none⟩=false/\W.frozen? ⟨b,1,none⟩=false/\W.frozen? ⟨b,2,none⟩=false/\W.frozen? ⟨b,3,none⟩=false/\W.frozen? ⟨b,4,none⟩=false/\W.frozen? ⟨b,5,none⟩=false :=
 ⟨h.cell 0 rfl,h.cell 1 rfl,h.cell 2 rfl,h.cell 3 rfl,h.cell 4 rfl,h.cell 5 rfl,h.frozen 0,h.frozen 1,h.frozen 2,h.frozen 3,h.frozen 4,h.frozen 5⟩
structure Ld (W V:World)(kd nd:Array Value)(ms:Array Value):Prop where
 k:aB V W.heap.size 23 kd
 n:aB V (W.heap.size+1) 93 nd
 r:aB V (W.heap.size+1+1) 41 in0
 m:aB V (W.heap.size+1+1+1) 41 ms
 lo:Below W.heap.size W V
theorem Ld.below {W V V':World}{kd nd ms:Array Value}(h:Ld W V kd nd ms)(hb:Below V.heap.size V V'):Ld W V' kd nd ms:=⟨h.k.below hb,h.n.below hb,h.r.below hb,h.m.below hb,bel h.lo hb⟩
theorem Ld.put {kd nd ms:Array Value}(h:Ld W V kd nd ms)(i:Nat)(x:Value):Ld W (V.setCell ⟨W.heap.size+1+1+1,i,none⟩ x) kd nd (ms.setIfInBounds i x) :=
 ⟨h.k.other (p:=⟨W.heap.size+1+1+1,i,none⟩) (show W.heap.size≠W.heap.size+1+1+1 by omega) _,h.n.other (p:=⟨W.heap.size+1+1+1,i,none⟩) (show W.heap.size+1≠W.heap.size+1+1+1 by omega) _,h.r.other (p:=⟨W.heap.size+1+1+1,i,none⟩) (show W.heap.size+1+1≠W.heap.size+1+1+1 by omega) _,h.m.set i x,h.lo.setCell (p:=⟨W.heap.size+1+1+1,i,none⟩) (show W.heap.size<=W.heap.size+1+1+1 by omega) _⟩
abbrev ms0 (op:Int):Array Value:=#[.int .i64 op,.int .i64 0,.int .i64 0,.int .i64 0,.int .i64 0,.int .i64 0]
theorem aB6 (f d:Int){n:Nd}{BS:List Int}{i rl rc:Nat}{ra:Option Addr}{R:List Int}(hn:Wn BS i n)(h4:n.op≠4)(hR:Iz W ra rl rc R)(hi:i<=rl) :
  Calls Tryz.prog 34 #[.agg (bX f d),.agg (dY n),.slice ra rl rc] W fun e W'=>e=.returned (.agg (Cde.ia (pJ f d R n)))/\Below W.heap.size W W':=by
 have HA:=aA fun W=>Spn.bI n.op W
 rw[vG] at HA
 have HK:=aA fun W=>zF f d n hn.wf W
 have hb1:=aC W (.cells (bX f d) 23)
 have hb2:=bel hb1 (aC (W.alloc (.cells (bX f d) 23)) (.cells (dY n) 93))
 have hb3:=bel hb2 (aC ((W.alloc (.cells (bX f d) 23)).alloc (.cells (dY n) 93)) (.cells in0 41))
 have hb4:=bel hb3 (aC (((W.alloc (.cells (bX f d) 23)).alloc (.cells (dY n) 93)).alloc (.cells in0 41)) (.cells (ms0 n.op) 41))
 have HL0:Hid (Ld W ((((W.alloc (.cells (bX f d) 23)).alloc (.cells (dY n) 93)).alloc (.cells in0 41)).alloc (.cells (ms0 n.op) 41)) (bX f d) (dY n) (ms0 n.op)) :=
  aA ⟨((aB.new W 23 (bX f d)).alloc (.cells (dY n) 93)).alloc (.cells in0 41) |>.alloc (.cells (ms0 n.op) 41),((aBo W (.cells (bX f d) 23) 93 (dY n)).alloc (.cells in0 41)).alloc (.cells (ms0 n.op) 41),
   (aFl W (.cells (bX f d) 23) (.cells (dY n) 93) 41 in0).alloc (.cells (ms0 n.op) 41),aTp W (.cells (bX f d) 23) (.cells (dY n) 93) (.cells in0 41) 41 (ms0 n.op),hb4⟩
 have HRI:=aA (hR.later hb4)
 have HRW:=aA hR
 have hp:=hn.prt
 have hf:=rO hn h4
 clear hb1 hb2 hb3 hb4 hR hn
 unfold pJ
 rcases hf with⟨e,-⟩|⟨-,e,hq⟩|⟨-,e,hq⟩|⟨-,e,hq⟩
 ·rw[e,if_neg (by decide),if_neg (by decide),if_neg (by decide)]
  rw[e] at HA
  generalize loK f d n=z at *
  clear e h4 hp
  go_enter Tryz.func34,Tryz.ntmps34
  go_wp2_with fail
  refine(HA.o _).mono ?_
  rintro e V1 ⟨rfl,rfl⟩
  obtain⟨V,hV⟩:∃ V,(((W.alloc (.cells (bX f d) 23)).alloc (.cells (dY n) 93)).alloc (.cells in0 41)).alloc (.cells (ms0 n.op) 41)=V:=⟨_,rfl⟩
  rw[hV] at HL0 HRI ⊢
  clear hV HA
  obtain⟨k0,k1,-,-⟩:=aQ HL0.o.k
  obtain⟨e0,e1,e2,e3,e4,e5,e6,e7,e8⟩:=jX HL0.o.n
  go_wp2_with fail
  refine(HK.o _).mono ?_
  rintro e V1 ⟨rfl,hb⟩
  have HL1:=aA (HL0.o.below hb)
  obtain⟨m0,m1,m2,m3,m4,m5,y0,y1,y2,y3,y4,y5⟩:=oV HL1.o.m
  obtain⟨r0,r1,r2,r3,r4,r5,x0,x1,x2,x3,x4,x5⟩:=oV HL1.o.r
  clear hb k0 k1 e0 e1 e2 e3 e4 e5 e6 e7 e8 HL0
  go_wp2_with fail
  have HL2:=aA (HL1.o.put 4 (.int .i64 z))
  obtain⟨hc,hb⟩:=vP HL2.o.r HL2.o.lo (by omega) (.int .i64 n.op) (.int .i64 0) (.int .i64 0) (.int .i64 0) (.int .i64 z) (.int .i64 0)
  have c0:=hc.cell 0 rfl
  have c1:=hc.cell 1 rfl
  have c2:=hc.cell 2 rfl
  have c3:=hc.cell 3 rfl
  have c4:=hc.cell 4 rfl
  have c5:=hc.cell 5 rfl
  exact bodyPost_ret (v:=.agg #[.int .i64 n.op,.int .i64 0,.int .i64 0,.int .i64 0,.int .i64 z,.int .i64 0]) (by simp[results,Tryz.results34,go_sem,c0,c1,c2,c3,c4,c5]) rfl ⟨rfl,hb⟩
 ·rw[e,if_pos rfl]
  rw[e] at HA
  rw[hq] at hp
  clear e h4 hq HK
  have ha:=hp n.a (by simp)
  obtain⟨pa,hpa⟩:∃ q:Nat,n.a=(q:Int):=⟨n.a.toNat,by omega⟩
  unfold sI
  rw[hpa]
  simp only[Int.toNat_natCast]
  rw[hpa] at ha
  simp only[Int.toNat_natCast] at ha
  clear hp
  obtain⟨b,off,rfl,hlb,hcw⟩:=aLr HRW.o (by omega)
  have hcv:=(HRI.o).cell
  have hne:b≠W.heap.size+1+1+1:=by omega
  obtain⟨za,hza⟩:∃ z,R.getD pa 0=z:=⟨_,rfl⟩
  rw[hza]
  go_enter Tryz.func34,Tryz.ntmps34
  go_wp2_with fail
  refine(HA.o _).mono ?_
  rintro e V1 ⟨rfl,rfl⟩
  obtain⟨V,hV⟩:∃ V,(((W.alloc (.cells (bX f d) 23)).alloc (.cells (dY n) 93)).alloc (.cells in0 41)).alloc (.cells (ms0 n.op) 41)=V:=⟨_,rfl⟩
  rw[hV] at HL0 HRI hcv ⊢
  clear hV HA hcw
  obtain⟨e0,e1,e2,e3,e4,e5,e6,e7,e8⟩:=jX HL0.o.n
  rw[hpa] at e1
  obtain⟨hcx⟩:Nonempty (∀ i,i < rl->V.cell? ⟨b,off+i,none⟩=some (.int .i64 (R.getD i 0))):=by
   rcases hcv with h|⟨b',off',h1,-,h2⟩
   ·omega
   ·cases h1;exact⟨h2⟩
  have ca:=hcx pa (by omega)
  rw[hza] at ca
  have ia:(pa:Int) < rl:=by omega
  have ja:(0:Int)<=pa:=by omega
  obtain⟨m0,m1,m2,m3,m4,m5,y0,y1,y2,y3,y4,y5⟩:=oV HL0.o.m
  obtain⟨r0,r1,r2,r3,r4,r5,x0,x1,x2,x3,x4,x5⟩:=oV HL0.o.r
  clear hcx hcv hlb HRI HRW hpa ha hza
  go_wp2_with fail
  have HL2:=aA (HL0.o.put 1 (.int .i64 za))
  obtain⟨hc,hb⟩:=vP HL2.o.r HL2.o.lo (by omega) (.int .i64 n.op) (.int .i64 za) (.int .i64 0) (.int .i64 0) (.int .i64 0) (.int .i64 0)
  have c0:=hc.cell 0 rfl
  have c1:=hc.cell 1 rfl
  have c2:=hc.cell 2 rfl
  have c3:=hc.cell 3 rfl
  have c4:=hc.cell 4 rfl
  have c5:=hc.cell 5 rfl
  exact bodyPost_ret (v:=.agg #[.int .i64 n.op,.int .i64 za,.int .i64 0,.int .i64 0,.int .i64 0,.int .i64 0]) (by simp[results,Tryz.results34,go_sem,c0,c1,c2,c3,c4,c5]) rfl ⟨rfl,hb⟩
 ·rw[e,if_neg (by decide),if_pos rfl]
  rw[e] at HA
  rw[hq] at hp
  clear e h4 hq HK
  have ha:=hp n.a (by simp)
  have hb:=hp n.b (by simp)
  obtain⟨pa,hpa⟩:∃ q:Nat,n.a=(q:Int):=⟨n.a.toNat,by omega⟩
  obtain⟨pb,hpb⟩:∃ q:Nat,n.b=(q:Int):=⟨n.b.toNat,by omega⟩
  unfold sI
  rw[hpa,hpb]
  simp only[Int.toNat_natCast]
  rw[hpa] at ha
  rw[hpb] at hb
  simp only[Int.toNat_natCast] at ha hb
  clear hp
  obtain⟨b,off,rfl,hlb,hcw⟩:=aLr HRW.o (by omega)
  have hcv:=(HRI.o).cell
  have hne:b≠W.heap.size+1+1+1:=by omega
  obtain⟨za,hza⟩:∃ z,R.getD pa 0=z:=⟨_,rfl⟩
  obtain⟨zb,hzb⟩:∃ z,R.getD pb 0=z:=⟨_,rfl⟩
  rw[hza,hzb]
  go_enter Tryz.func34,Tryz.ntmps34
  go_wp2_with fail
  refine(HA.o _).mono ?_
  rintro e V1 ⟨rfl,rfl⟩
  obtain⟨V,hV⟩:∃ V,(((W.alloc (.cells (bX f d) 23)).alloc (.cells (dY n) 93)).alloc (.cells in0 41)).alloc (.cells (ms0 n.op) 41)=V:=⟨_,rfl⟩
  rw[hV] at HL0 HRI hcv ⊢
  clear hV HA hcw
  obtain⟨e0,e1,e2,e3,e4,e5,e6,e7,e8⟩:=jX HL0.o.n
  rw[hpa] at e1
  rw[hpb] at e2
  obtain⟨hcx⟩:Nonempty (∀ i,i < rl->V.cell? ⟨b,off+i,none⟩=some (.int .i64 (R.getD i 0))):=by
   rcases hcv with h|⟨b',off',h1,-,h2⟩
   ·omega
   ·cases h1;exact⟨h2⟩
  have ca:=hcx pa (by omega)
  rw[hza] at ca
  have ia:(pa:Int) < rl:=by omega
  have ja:(0:Int)<=pa:=by omega
  have cb:=hcx pb (by omega)
  rw[hzb] at cb
  have ib:(pb:Int) < rl:=by omega
  have jb:(0:Int)<=pb:=by omega
  obtain⟨m0,m1,m2,m3,m4,m5,y0,y1,y2,y3,y4,y5⟩:=oV HL0.o.m
  obtain⟨r0,r1,r2,r3,r4,r5,x0,x1,x2,x3,x4,x5⟩:=oV HL0.o.r
  clear hcx hcv hlb HRI HRW hpa ha hza hpb hb hzb
  go_wp2_with fail
  have HL2:=aA ((HL0.o.put 2 (.int .i64 zb)).put 1 (.int .i64 za))
  obtain⟨hc,hb⟩:=vP HL2.o.r HL2.o.lo (by omega) (.int .i64 n.op) (.int .i64 za) (.int .i64 zb) (.int .i64 0) (.int .i64 0) (.int .i64 0)
  have c0:=hc.cell 0 rfl
  have c1:=hc.cell 1 rfl
  have c2:=hc.cell 2 rfl
  have c3:=hc.cell 3 rfl
  have c4:=hc.cell 4 rfl
  have c5:=hc.cell 5 rfl
  exact bodyPost_ret (v:=.agg #[.int .i64 n.op,.int .i64 za,.int .i64 zb,.int .i64 0,.int .i64 0,.int .i64 0]) (by simp[results,Tryz.results34,go_sem,c0,c1,c2,c3,c4,c5]) rfl ⟨rfl,hb⟩
 ·rw[e,if_neg (by decide),if_neg (by decide),if_pos rfl]
  rw[e] at HA
  rw[hq] at hp
  clear e h4 hq HK
  have ha:=hp n.a (by simp)
  have hb:=hp n.b (by simp)
  have hc:=hp n.c (by simp)
  obtain⟨pa,hpa⟩:∃ q:Nat,n.a=(q:Int):=⟨n.a.toNat,by omega⟩
  obtain⟨pb,hpb⟩:∃ q:Nat,n.b=(q:Int):=⟨n.b.toNat,by omega⟩
  obtain⟨pc,hpc⟩:∃ q:Nat,n.c=(q:Int):=⟨n.c.toNat,by omega⟩
  unfold sI
  rw[hpa,hpb,hpc]
  simp only[Int.toNat_natCast]
  rw[hpa] at ha
  rw[hpb] at hb
  rw[hpc] at hc
  simp only[Int.toNat_natCast] at ha hb hc
  clear hp
  obtain⟨b,off,rfl,hlb,hcw⟩:=aLr HRW.o (by omega)
  have hcv:=(HRI.o).cell
  have hne:b≠W.heap.size+1+1+1:=by omega
  obtain⟨za,hza⟩:∃ z,R.getD pa 0=z:=⟨_,rfl⟩
  obtain⟨zb,hzb⟩:∃ z,R.getD pb 0=z:=⟨_,rfl⟩
  obtain⟨zc,hzc⟩:∃ z,R.getD pc 0=z:=⟨_,rfl⟩
  rw[hza,hzb,hzc]
  go_enter Tryz.func34,Tryz.ntmps34
  go_wp2_with fail
  refine(HA.o _).mono ?_
  rintro e V1 ⟨rfl,rfl⟩
  obtain⟨V,hV⟩:∃ V,(((W.alloc (.cells (bX f d) 23)).alloc (.cells (dY n) 93)).alloc (.cells in0 41)).alloc (.cells (ms0 n.op) 41)=V:=⟨_,rfl⟩
  rw[hV] at HL0 HRI hcv ⊢
  clear hV HA hcw
  obtain⟨e0,e1,e2,e3,e4,e5,e6,e7,e8⟩:=jX HL0.o.n
  rw[hpa] at e1
  rw[hpb] at e2
  rw[hpc] at e3
  obtain⟨hcx⟩:Nonempty (∀ i,i < rl->V.cell? ⟨b,off+i,none⟩=some (.int .i64 (R.getD i 0))):=by
   rcases hcv with h|⟨b',off',h1,-,h2⟩
   ·omega
   ·cases h1;exact⟨h2⟩
  have ca:=hcx pa (by omega)
  rw[hza] at ca
  have ia:(pa:Int) < rl:=by omega
  have ja:(0:Int)<=pa:=by omega
  have cb:=hcx pb (by omega)
  rw[hzb] at cb
  have ib:(pb:Int) < rl:=by omega
  have jb:(0:Int)<=pb:=by omega
  have cc:=hcx pc (by omega)
  rw[hzc] at cc
  have ic:(pc:Int) < rl:=by omega
  have jc:(0:Int)<=pc:=by omega
  obtain⟨m0,m1,m2,m3,m4,m5,y0,y1,y2,y3,y4,y5⟩:=oV HL0.o.m
  obtain⟨r0,r1,r2,r3,r4,r5,x0,x1,x2,x3,x4,x5⟩:=oV HL0.o.r
  clear hcx hcv hlb HRI HRW hpa ha hza hpb hb hzb hpc hc hzc
  go_wp2_with fail
  have HL2:=aA (((HL0.o.put 3 (.int .i64 zc)).put 2 (.int .i64 zb)).put 1 (.int .i64 za))
  obtain⟨hc,hb⟩:=vP HL2.o.r HL2.o.lo (by omega) (.int .i64 n.op) (.int .i64 za) (.int .i64 zb) (.int .i64 zc) (.int .i64 0) (.int .i64 0)
  have c0:=hc.cell 0 rfl
  have c1:=hc.cell 1 rfl
  have c2:=hc.cell 2 rfl
  have c3:=hc.cell 3 rfl
  have c4:=hc.cell 4 rfl
  have c5:=hc.cell 5 rfl
  exact bodyPost_ret (v:=.agg #[.int .i64 n.op,.int .i64 za,.int .i64 zb,.int .i64 zc,.int .i64 0,.int .i64 0]) (by simp[results,Tryz.results34,go_sem,c0,c1,c2,c3,c4,c5]) rfl ⟨rfl,hb⟩
end Go.Proofs.YtihbhbeaihdgnaaGreat
