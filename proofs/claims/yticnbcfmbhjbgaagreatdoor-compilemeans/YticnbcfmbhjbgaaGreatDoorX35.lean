import Derived.Test.YticnbcfmbhjbgaaGreatDoorX34
set_option maxRecDepth 100000
set_option maxHeartbeats 32000000
set_option linter.unusedVariables false
namespace Go.Proofs.Prn
section
open Go.RowKit Go.IntWalk Knd
open YticnbcfmbhjbgaaGreatDoor (Wd dQ Fits inpV)
open Cde (In i0 eF dC bE eH kM eU jK cZ tK nA fZ gW nE tJ tH)
open Vfy (pI aW aI w32 eZ iL sgS kR wX tC sD eO)
open Fld (ar vl rg dH dP Rv gv eD)
open Rdc (lZ)
variable {i:Nat} {L:List In} {out:Int}
inductive Lv (L:List In) (out:Int):Nat->Prop
 | ans:Lv L out out.toNat
 | arg {i:Nat} {r:Int}:Lv L out i->r ∈ eF (L.getD i i0)->Lv L out r.toNat
def mkA (B:List Bool)(P:List Int):List Bool:=P.foldl (fun B r=>B.set r.toNat true) B
def lvS (L:List In)(B:List Bool)(i:Nat):List Bool:=if B.getD i false=true then mkA B (eF (L.getD i i0)) else B
def lvM (L:List In)(out:Int):List Bool:=((List.range L.length).reverse).foldl (lvS L) ((List.replicate L.length false).set out.toNat true)
theorem aJd (P:List Int):∀ B:List Bool,(mkA B P).length=B.length:=by
 induction P with
 | nil=>intro B;rfl
 | cons r P ih=>intro B;show (mkA (B.set r.toNat true) P).length=_;rw[ih,List.length_set]
theorem yR {B:List Bool}{r:Nat}:(B.set r true).getD i false=if i=r/\r < B.length then true else B.getD i false:=by
 rw[gdE,List.getElem?_set,gdE]
 by_cases e:r=i
 ·subst e
  by_cases h:r < B.length
  ·simp[h]
  ·simp[h]
 ·rw[if_neg e,if_neg (by omega)]
theorem uM (P:List Int):∀(B:List Bool) (i:Nat),(mkA B P).getD i false=true↔B.getD i false=true\/(i < B.length/\∃ r ∈ P,r.toNat=i):=by
 induction P with
 | nil=>intro B i;simp[mkA]
 | cons r P ih =>
  intro B i
  show (mkA (B.set r.toNat true) P).getD i false=true↔_
  rw[ih,yR,List.length_set]
  constructor
  ·rintro(h|⟨h1,q,h2,h3⟩)
   ·split at h
    ·rename_i e
     exact .inr ⟨by omega,r,by simp,e.1.symm⟩
    ·exact .inl h
   ·exact .inr ⟨h1,q,by simp[h2],h3⟩
  ·rintro(h|⟨h1,q,h2,h3⟩)
   ·left
    split
    ·rfl
    ·exact h
   ·rcases lMm.1 h2 with rfl|h2
    ·left
     rw[if_pos ⟨h3.symm,by omega⟩]
    ·exact .inr ⟨h1,q,h2,h3⟩
structure Mk (L:List In)(out:Int)(k:Nat)(B:List Bool):Prop where
 len:B.length=L.length
 lv:∀ i,B.getD i false=true->Lv L out i
 ans:B.getD out.toNat false=true
 cl:∀ i,k<=i->i < L.length->B.getD i false=true->∀ r ∈ eF (L.getD i i0),B.getD r.toNat false=true
theorem Mk.step {k:Nat}{B:List Bool}(h:Mk L out (k+1) B)(hk:k < L.length)(ho:bE (L.getD k i0) k=true):Mk L out k (lvS L B k):=by
 unfold lvS
 by_cases hb:B.getD k false=true
 ·rw[if_pos hb]
  have hr:∀ r ∈ eF (L.getD k i0),r.toNat < k:=fun r hr=>(Vfy.pK ho hr).2
  refine⟨by rw[aJd];exact h.len,fun i hi=>?_,(uM _ _ _).2 (.inl h.ans),fun i h1 h2 h3 r h4=>?_⟩
  ·rcases(uM _ _ _).1 hi with h1|⟨-,r,h1,rfl⟩
   ·exact h.lv i h1
   ·exact .arg (h.lv k hb) h1
  ·by_cases e:i=k
   ·subst e
    exact(uM _ _ _).2 (.inr ⟨by have:=hr r h4;have:=h.len;omega,r,h4,rfl⟩)
   ·have hi:B.getD i false=true:=by
     rcases(uM _ _ _).1 h3 with h5|⟨-,q,h5,h6⟩
     ·exact h5
     ·have:=hr q h5
      omega
    exact(uM _ _ _).2 (.inl (h.cl i (by omega) h2 hi r h4))
 ·rw[if_neg hb]
  refine⟨h.len,h.lv,h.ans,fun i h1 h2 h3 r h4=>?_⟩
  by_cases e:i=k
  ·subst e;exact absurd h3 hb
  ·exact h.cl i (by omega) h2 h3 r h4
theorem Mk.start (ho:out.toNat < L.length):Mk L out L.length ((List.replicate L.length false).set out.toNat true):=by
 refine⟨by simp,fun i hi=>?_,?_,fun i h1 h2=>absurd h2 (by omega)⟩
 ·rw[yR] at hi
  split at hi
  ·rename_i e
   rw[e.1];exact .ans
  ·rw[gdE,List.getElem?_replicate] at hi
   split at hi <;> simp at hi
 ·rw[yR,if_pos ⟨rfl,by simpa using ho⟩]
theorem Mk.down {L:List In}{out:Int}(hok:eH L L.length=true):∀(k:Nat) (B:List Bool),k<=L.length->Mk L out k B->Mk L out 0 (((List.range k).reverse).foldl (lvS L) B)
 | 0,B,_,h=>by simpa using h
 | k+1,B,hk,h=>by
  rw[List.range_succ,List.reverse_append]
  show Mk L out 0 (((List.range k).reverse).foldl (lvS L) (lvS L B k))
  exact Mk.down hok k _ (by omega) (h.step (by omega) (Cde.dE hok (by omega)))
theorem aOt (hok:eH L L.length=true)(ho:out.toNat < L.length):Mk L out 0 (lvM L out):=Mk.down hok L.length _ (nLr _) (Mk.start ho)
theorem Mk.iff {B:List Bool}(h:Mk L out 0 B)(hok:eH L L.length=true)(ho:out.toNat < L.length)(i:Nat):B.getD i false=true↔Lv L out i:=by
 refine⟨h.lv i,fun hl=>?_⟩
 have:B.getD i false=true/\i < L.length:=by
  induction hl with
  | ans=>exact⟨h.ans,ho⟩
  | @arg j r h1 h2 ih=>exact⟨h.cl j (nZl _) ih.2 ih.1 r h2,by have:=(Vfy.pK (Cde.dE hok ih.2) h2).2;omega⟩
 exact this.1
theorem aJb (hok:eH L L.length=true)(ho:out.toNat < L.length)(h:Lv L out i):i<=out.toNat:=by
 have:i<=out.toNat/\i < L.length:=by
  induction h with
  | ans=>exact⟨nLr _,ho⟩
  | @arg j r h1 h2 ih =>
   have:=(Vfy.pK (Cde.dE hok ih.2) h2).2
   exact⟨by omega,by omega⟩
 exact this.1
def dU (L:List In)(out:Int):List Nat:=(List.range L.length).filter fun i=>(lvM L out).getD i false
def toL (L:List In)(out:Int):List Int:=(List.range L.length).map fun i=>if (lvM L out).getD i false=true then(((dU L out).idxOf i:Nat):Int) else 0
def sQ (L:List In)(out:Int):List In:=(dU L out).map fun i=>dH (L.getD i i0) (toL L out)
def prO (L:List In)(out:Int):Int:=(toL L out).getD out.toNat 0
theorem gT (hok:eH L L.length=true)(ho:out.toNat < L.length):i ∈ dU L out↔i < L.length/\Lv L out i:=by
 unfold dU
 rw[List.mem_filter,List.mem_range]
 exact and_congr_right fun _=>(aOt hok ho).iff hok ho i
theorem aRc (hi:i ∈ dU L out):(toL L out).getD i 0=(((dU L out).idxOf i:Nat):Int)/\(dU L out).idxOf i < (dU L out).length/\(dU L out).getD ((dU L out).idxOf i) 0=i:=by
 have h:=hi
 unfold dU at h
 rw[List.mem_filter,List.mem_range] at h
 have hlt:=List.idxOf_lt_length_of_mem hi
 refine⟨?_,hlt,?_⟩
 ·unfold toL
  rw[gdE,gEm,List.getElem?_range h.1]
  show (if (lvM L out).getD i false=true then _ else _)=_
  rw[if_pos h.2]
 ·rw[gdE,gEg hlt]
  simp
end
section
open Go.RowKit Go.IntWalk Knd
open YticnbcfmbhjbgaaGreatDoor (Wd dQ Fits inpV)
open Cde (In i0 eF dC bE eH kM eU jK cZ tK nA fZ gW nE tJ tH)
open Vfy (pI aW aI w32 eZ iL sgS kR wX tC sD eO)
open Fld (ar vl rg dH dP Rv gv eD xP jI oV av1 uV av3 kH)
open Rdc (lZ)
variable {L:List In} {out:Int} {j:Nat}
theorem aQ6 (n:In)(T:List Int):eF (dH n T)=(eF n).map (dP T):=by
 rcases Cde.jU n.op with e|e|e|e|e
 ·have e1:eF n=[]:=by unfold eF dC;rw[e];rfl
  have e2:eF (dH n T)=[]:=by unfold eF dC;rw[show Spn.ar (dH n T).op=-1 from e];rfl
  rw[e1,e2];rfl
 ·have e1:eF n=[]:=by unfold eF dC;rw[e];rfl
  have e2:eF (dH n T)=[]:=by unfold eF dC;rw[show Spn.ar (dH n T).op=0 from e];rfl
  rw[e1,e2];rfl
 ·have e':ar n.op=1:=e
  rw[xP e',xP (n:=dH n T) e']
  have ea:(dH n T).a=dP T n.a:=by show (if 0 < ar n.op then dP T n.a else n.a)=_;rw[if_pos (by omega)]
  rw[ea];rfl
 ·have e':ar n.op=2:=e
  rw[jI e',jI (n:=dH n T) e']
  have ea:(dH n T).a=dP T n.a:=by show (if 0 < ar n.op then dP T n.a else n.a)=_;rw[if_pos (by omega)]
  have eb:(dH n T).b=dP T n.b:=by show (if 1 < ar n.op then dP T n.b else n.b)=_;rw[if_pos (by omega)]
  rw[ea,eb];rfl
 ·have e':ar n.op=3:=e
  rw[oV e',oV (n:=dH n T) e']
  have ea:(dH n T).a=dP T n.a:=by show (if 0 < ar n.op then dP T n.a else n.a)=_;rw[if_pos (by omega)]
  have eb:(dH n T).b=dP T n.b:=by show (if 1 < ar n.op then dP T n.b else n.b)=_;rw[if_pos (by omega)]
  have ec:(dH n T).c=dP T n.c:=by show (if 2 < ar n.op then dP T n.c else n.c)=_;rw[if_pos (by omega)]
  rw[ea,eb,ec];rfl
theorem aZh {n:In}{T:List Int}{k m:Nat}(h:∀ r ∈ eF n,eD (dP T r) m)(ho:bE n k=true):bE (dH n T) m=true:=by
 have hc:=Cde.qE ho
 have ha:=Cde.aBn ho
 simp only[bE,tJ,bAt,kH] at ho
 obtain⟨⟨-,⟨⟨a1,a2⟩,b1,b2⟩,c1,c2⟩,-⟩:=ho
 simp only[dEt,decide_eq_false_iff_not] at a1 a2 b1 b2 c1 c2
 have hc':nE (dH n T)=true:=hc
 have ma:0 < ar n.op->n.a ∈ eF n:=fun u=>by
  rcases Cde.jU n.op with e|e|e|e|e
  ·have:ar n.op=-1:=e;omega
  ·have:ar n.op=0:=e;omega
  ·rw[xP e];simp
  ·rw[jI e];simp
  ·rw[oV e];simp
 have mb:1 < ar n.op->n.b ∈ eF n:=fun u=>by
  rcases Cde.jU n.op with e|e|e|e|e
  ·have:ar n.op=-1:=e;omega
  ·have:ar n.op=0:=e;omega
  ·have:ar n.op=1:=e;omega
  ·rw[jI e];simp
  ·rw[oV e];simp
 have mc:2 < ar n.op->n.c ∈ eF n:=fun u=>by
  rcases Cde.jU n.op with e|e|e|e|e
  ·have:ar n.op=-1:=e;omega
  ·have:ar n.op=0:=e;omega
  ·have:ar n.op=1:=e;omega
  ·have:ar n.op=2:=e;omega
  ·rw[oV e];simp
 simp only[bE,tJ,bAt,kH,hc',dEt,decide_eq_false_iff_not]
 refine⟨⟨ha,⟨⟨fun u=>?_,fun u=>?_⟩,fun u=>?_,fun u=>?_⟩,fun u=>?_,fun u=>?_⟩,trivial⟩
 ·show eD (if 0 < ar n.op then dP T n.a else n.a) m
  rw[if_pos (show 0 < ar n.op from u)];exact h _ (ma u)
 ·show (if 0 < ar n.op then dP T n.a else n.a)=0
  rw[if_neg (show ¬0 < ar n.op from u)];exact a2 u
 ·show eD (if 1 < ar n.op then dP T n.b else n.b) m
  rw[if_pos (show 1 < ar n.op from u)];exact h _ (mb u)
 ·show (if 1 < ar n.op then dP T n.b else n.b)=0
  rw[if_neg (show ¬1 < ar n.op from u)];exact b2 u
 ·show eD (if 2 < ar n.op then dP T n.c else n.c) m
  rw[if_pos (show 2 < ar n.op from u)];exact h _ (mc u)
 ·show (if 2 < ar n.op then dP T n.c else n.c)=0
  rw[if_neg (show ¬2 < ar n.op from u)];exact c2 u
theorem lK (L:List In)(out:Int):(dU L out).Pairwise (· < ·):=List.Pairwise.filter _ List.pairwise_lt_range
theorem aXq {p q:Nat}(hp:p < (dU L out).length)(hq:q < (dU L out).length)(h:(dU L out).getD p 0 < (dU L out).getD q 0):p < q:=by
 rcases Nat.lt_trichotomy p q with e|e|e
 ·exact e
 ·subst e;omega
 ·have:=List.pairwise_iff_getElem.1 (lK L out) q p hq hp e
  rw[gdE,gEg hp,gdE,gEg hq] at h
  simp at h
  omega
theorem aD4 (L:List In)(out:Int):(toL L out).length=L.length:=by simp[toL]
theorem jE (L:List In)(out:Int):(sQ L out).length=(dU L out).length:=by simp[sQ]
structure Pc (L:List In)(out:Int):Prop where
 ok:eH L L.length=true
 o0:0<=out
 o1:out.toNat < L.length
theorem Pc.mem (h:Pc L out)(hj:j < (dU L out).length):(dU L out).getD j 0 < L.length/\Lv L out ((dU L out).getD j 0):=by
 have:(dU L out).getD j 0 ∈ dU L out:=by rw[gdE,gEg hj];exact List.getElem_mem _
 exact(gT h.ok h.o1).1 this
theorem Pc.reg (h:Pc L out)(hj:j < (dU L out).length){r:Int}(hr:r ∈ eF (L.getD ((dU L out).getD j 0) i0)) :
  0<=r/\r.toNat ∈ dU L out/\dP (toL L out) r=(((dU L out).idxOf r.toNat:Nat):Int)/\(dU L out).idxOf r.toNat < j/\(dU L out).getD ((dU L out).idxOf r.toNat) 0=r.toNat:=by
 obtain⟨h1,h2⟩:=h.mem hj
 obtain⟨r0,r1⟩:=Vfy.pK (Cde.dE h.ok h1) hr
 have hm:r.toNat ∈ dU L out:=(gT h.ok h.o1).2 ⟨by omega,.arg h2 hr⟩
 obtain⟨t1,t2,t3⟩:=aRc hm
 refine⟨r0,hm,?_,aXq t2 hj (by rw[t3];exact r1),t3⟩
 unfold dP
 rw[aD4,if_neg (by omega),t1]
theorem aDf (hj:j < (dU L out).length):(sQ L out).getD j i0=dH (L.getD ((dU L out).getD j 0) i0) (toL L out):=by
 unfold sQ
 rw[gdE,gEm,gdE (l:=dU L out),gEg hj]
 rfl
theorem Pc.okN (h:Pc L out)(hj:j < (dU L out).length):bE ((sQ L out).getD j i0) j=true:=by
 rw[aDf hj]
 refine aZh (fun r hr=>?_) (Cde.dE h.ok (h.mem hj).1)
 obtain⟨-,-,e,e2,-⟩:=h.reg hj hr
 rw[e]
 exact⟨by omega,by simpa using e2⟩
theorem Pc.vals (h:Pc L out){f d:Int}{v:Wd}{V:List Int}(hV:Rv f d v L V):Rv f d v (sQ L out) ((dU L out).map fun i=>V.getD i 0):=by
 have hget:∀ j,j < (dU L out).length->((dU L out).map fun i=>V.getD i 0).getD j 0=V.getD ((dU L out).getD j 0) 0:=fun j hj=>by
  rw[gdE,gEm,gdE (l:=dU L out),gEg hj]
  rfl
 refine⟨by simp[sQ],fun j hj=>?_,fun j hj=>?_⟩
 ·exact h.okN (by rw[jE] at hj;exact hj)
 ·rw[jE] at hj
  obtain⟨h1,h2⟩:=h.mem hj
  have hv:=hV.val _ h1
  rw[aDf hj,hget j hj,<-hv]
  unfold cZ
  have e:gW ((dU L out).map fun i=>V.getD i 0) (dH (L.getD ((dU L out).getD j 0) i0) (toL L out))=gW V (L.getD ((dU L out).getD j 0) i0):=by
   unfold gW
   rw[aQ6,List.map_map]
   apply List.map_congr_left
   intro r hr
   obtain⟨-,-,e,e2,e3⟩:=h.reg hj hr
   show ((dU L out).map fun i=>V.getD i 0).getD (dP (toL L out) r).toNat 0=V.getD r.toNat 0
   rw[e,iTn,hget _ (by omega),e3]
  rw[e]
  rfl
end
section
open Go.RowKit Go.IntWalk Knd
open YticnbcfmbhjbgaaGreatDoor (Wd dQ Fits inpV)
open Cde (In i0 eF dC bE eH kM eU jK cZ tK nA fZ gW nE tJ tH)
open Vfy (pI aW aI w32 eZ iL sgS kR wX tC sD eO)
open Fld (ar vl rg dH dP Rv gv eD xP jI oV av1 uV av3 kH)
open Rdc (lZ)
variable {d f out:Int} {L:List In}
theorem aJx {S:eO}(h:iL f d L=(0,S))(k:Nat):(iL f d (L.take k)).1=0:=by
 by_cases hc:(iL f d (L.take k)).1=0
 ·exact hc
 ·have e:=Vfy.aDr (L:=L) (k:=k) rfl hc
  rw[h] at e
  rw[<-e] at hc
  exact absurd rfl hc
theorem aU0 {S:eO}(hok:eH L L.length=true)(h:iL f d L=(0,S)){i:Nat}(hi:i < L.length):kR f d S (L.getD i i0)=(S.getD i (0,0),0):=by
 have e1:=aJx h i
 have e2:=aJx h (i+1)
 have l1:=Vfy.uR f d L i (by omega) e1
 have q1:iL f d (L.take i)=(0,(iL f d (L.take i)).2):=Prod.ext e1 rfl
 generalize (iL f d (L.take i)).2=A at q1 l1
 rw[Cde.aG i0 hi,Vfy.jF,q1,sgS,if_pos rfl] at e2
 have hn:(kR f d A (L.getD i i0)).2=0:=by
  by_cases hc:(kR f d A (L.getD i i0)).2=0
  ·exact hc
  ·rw[if_neg hc] at e2;exact e2
 have q2:=Rdc.aDt (n:=L.getD i i0) (s:=(kR f d A (L.getD i i0)).1) q1 (Prod.ext rfl hn)
 rw[<-Cde.aG i0 hi] at q2
 obtain⟨Z,hZ⟩:=Rdc.aQm (L.drop (i+1)) (L.take (i+1)) _ S q2 (by rw[lTd];exact h)
 have e3:kR f d S (L.getD i i0)=kR f d A (L.getD i i0):=by
  rw[hZ,lAa];exact Vfy.aDs (by rw[l1];exact Cde.dE hok hi)
 have e4:S.getD i (0,0)=(kR f d A (L.getD i i0)).1:=by
  rw[hZ]
  simp[List.getD_eq_getElem?_getD,<-l1]
 rw[e3,e4]
 exact Prod.ext rfl hn
theorem aF4 {f d:Int}{L:List In}{S:eO}(hok:∀ i,i < L.length->bE (L.getD i i0) i=true)(hl:S.length=L.length)(h:∀ i,i < L.length->kR f d S (L.getD i i0)=(S.getD i (0,0),0)):∀ k,k<=L.length->iL f d (L.take k)=(0,S.take k)
 | 0,_=>by simp[iL]
 | k+1,hk=>by
  have ih:=aF4 hok hl h k (by omega)
  rw[Cde.aG i0 (by omega),Cde.aG (0,0) (by omega)]
  refine Rdc.aDt ih ?_
  rw[<-h k (by omega)]
  have e:=Vfy.aDs (f:=f) (d:=d) (S:=S.take k) (Z:=S.drop k) (n:=L.getD k i0) (by rw[lLt,Nat.min_eq_left (by omega)];exact hok k (by omega))
  rw[lTd] at e
  exact e.symm
theorem aY8 {S:eO}(hok:∀ i,i < L.length->bE (L.getD i i0) i=true)(hl:S.length=L.length)(h:∀ i,i < L.length->kR f d S (L.getD i i0)=(S.getD i (0,0),0)):iL f d L=(0,S):=by
 have:=aF4 hok hl h L.length (nLr _)
 rwa[lTg,<-hl,lTg] at this
theorem Pc.okA (h:Pc L out):∀ j,j < (sQ L out).length->bE ((sQ L out).getD j i0) j=true:=fun j hj=>h.okN (by rw[jE] at hj;exact hj)
theorem Pc.sgs (h:Pc L out){S:eO}(hS:iL f d L=(0,S)):iL f d (sQ L out)=(0,(dU L out).map fun i=>S.getD i (0,0)):=by
 have hget:∀ j,j < (dU L out).length->((dU L out).map fun i=>S.getD i (0,0)).getD j (0,0)=S.getD ((dU L out).getD j 0) (0,0):=fun j hj=>by
  rw[gdE,gEm,gdE (l:=dU L out),gEg hj]
  rfl
 refine aY8 h.okA (by simp[sQ]) fun j hj=>?_
 rw[jE] at hj
 obtain⟨h1,h2⟩:=h.mem hj
 have hv:=aU0 h.ok hS h1
 rw[aDf hj,hget j hj,<-hv]
 have e:wX ((dU L out).map fun i=>S.getD i (0,0)) (dH (L.getD ((dU L out).getD j 0) i0) (toL L out))=wX S (L.getD ((dU L out).getD j 0) i0):=by
  unfold wX
  rw[aQ6,List.map_map]
  apply List.map_congr_left
  intro r hr
  obtain⟨-,-,e,e2,e3⟩:=h.reg hj hr
  show ((dU L out).map fun i=>S.getD i (0,0)).getD (dP (toL L out) r).toNat (0,0)=S.getD r.toNat (0,0)
  rw[e,iTn,hget _ (by omega),e3]
 unfold kR
 rw[e]
 rfl
theorem aEm (n:In)(L:List In):eU (n::L)=jK n.op+eU L:=by
 have e:n::L=[n]++L:=rfl
 rw[e,lZ]
 have:eU [n]=jK n.op:=by simp[eU]
 omega
theorem aA3 (F G:Nat->In)(hF:∀ i,(F i).op=(G i).op)(p:Nat->Bool):∀ I:List Nat,eU ((I.filter p).map F)<=eU (I.map G)
 | []=>by simp
 | i::I=>by
  have ih:=aA3 F G hF p I
  have:=(Cde.aNb (G i).op).1
  rw[lMc,aEm]
  by_cases hp:p i=true
  ·rw[List.filter_cons_of_pos hp,lMc,aEm,hF];omega
  ·rw[List.filter_cons_of_neg hp];omega
theorem aLn (L:List In):(List.range L.length).map (fun i=>L.getD i i0)=L:=by
 apply List.ext_getElem (by simp)
 intro i h1 h2
 simp[List.getD_eq_getElem?_getD,List.getElem?_eq_getElem h2]
theorem aFr (L:List In)(out:Int):eU (sQ L out)<=eU L:=by
 have:=aA3 (fun i=>dH (L.getD i i0) (toL L out)) (fun i=>L.getD i i0) (fun i=>rfl) (fun i=>(lvM L out).getD i false) (List.range L.length)
 rw[aLn] at this
 exact this
theorem aC1 (L:List In)(out:Int):(dU L out).length<=L.length:=by
 have:=List.length_filter_le (fun i=>(lvM L out).getD i false) (List.range L.length)
 rwa[List.length_range] at this
theorem Pc.ans {L:List In}{out:Int}(h:Pc L out):out.toNat ∈ dU L out:=(gT h.ok h.o1).2 ⟨h.o1,.ans⟩
theorem Pc.last (h:Pc L out):prO L out=((dU L out).length:Int)-1/\1<=(dU L out).length/\(dU L out).getD ((dU L out).length-1) 0=out.toNat:=by
 obtain⟨t1,t2,t3⟩:=aRc h.ans
 have hl:(dU L out).idxOf out.toNat=(dU L out).length-1:=by
  by_cases e:(dU L out).idxOf out.toNat=(dU L out).length-1
  ·exact e
  ·have hq:(dU L out).length-1 < (dU L out).length:=by omega
   have hp:=List.pairwise_iff_getElem.1 (lK L out) _ _ t2 hq (by omega)
   have hm:=(gT h.ok h.o1).1 (List.getElem_mem hq)
   have:=aJb h.ok h.o1 hm.2
   rw[gdE,gEg t2,oGs] at t3
   omega
 rw[hl] at t1 t3
 refine⟨?_,by omega,t3⟩
 unfold prO
 rw[t1]
 omega
theorem aFo (h:kM f d L out=true):Pc L out:=by
 obtain⟨-,-,-,h0,h1,ho⟩:=Cde.aQ h
 exact⟨ho,h0,by omega⟩
theorem aYg (h:∀ j,j < L.length->bE (L.getD j i0) j=true):eH L L.length=true:=by
 unfold eH
 rw[lAe]
 intro i hi
 exact h i (List.mem_range.1 hi)
theorem aWi (h:kM f d L out=true):kM f d (sQ L out) (prO L out)=true:=by
 obtain⟨hm,h1,h2,h3,h4,ho⟩:=Cde.aQ h
 have hp:=aFo h
 obtain⟨l1,l2,-⟩:=hp.last
 have:=aC1 L out
 have e:=jE L out
 simp only[kM,bAt,dEt,Spn.aK]
 refine⟨⟨⟨hm,?_⟩,?_⟩,aYg hp.okA⟩
 ·omega
 ·omega
theorem aFs (h:aW f d L out=0):aW f d (sQ L out) (prO L out)=0:=by
 obtain⟨m,ha,⟨S,hS,hSl,hs⟩,hc,-⟩:=aI h
 have hp:=aFo m
 rw[Vfy.aD9,Vfy.xG]
 refine⟨⟨aWi m,?_⟩,by rw[hp.sgs hS],by have:=aFr L out;omega⟩
 rw[List.any_eq_false] at ha ⊢
 intro n hn
 unfold sQ at hn
 obtain⟨i,hi,rfl⟩:=List.mem_map.1 hn
 have hi2:=((gT hp.ok hp.o1).1 hi).1
 exact ha (L.getD i i0) (Cde.pX i0 hi2)
theorem aPw (h:aW f d L out=0){v:Wd}(hF:Fits f d v) :
  ∃ V U,fZ f d v L out=(0,V)/\fZ f d v (sQ L out) (prO L out)=(0,U)/\V.length=L.length/\U.length=(sQ L out).length/\0<=prO L out/\(prO L out).toNat < (sQ L out).length/\U.getD (prO L out).toNat 0=V.getD out.toNat 0:=by
 obtain⟨m,-⟩:=aI h
 have hp:=aFo m
 obtain⟨l1,l2,l3⟩:=hp.last
 obtain⟨V,hV,hVl,hO⟩:=Rdc.aFh h hF
 have hU:=hp.vals hO.rv
 refine⟨V,_,hV,by rw[fZ,if_pos (aWi m),if_pos hF];exact Rdc.aRi hU,hVl,hU.len,by omega,by rw[jE];omega,?_⟩
 have e:(prO L out).toNat=(dU L out).length-1:=by omega
 have hq:(dU L out).length-1 < (dU L out).length:=by omega
 rw[e,gdE,gEm,gEg hq]
 rw[gdE,gEg hq,oGs] at l3
 show V.getD ((dU L out)[(dU L out).length-1]) 0=_
 rw[l3]
end
section
open Go.RowKit Go.IntWalk Knd
open YticnbcfmbhjbgaaGreatDoor (Wd dQ Fits inpV)
open Cde (In i0 eF dC bE eH kM eU jK cZ tK nA fZ gW nE tJ tH usU ctR agA)
open Vfy (pI aW aI w32 eZ iL sgS kR wX tC sD eO)
open Fld (ar vl rg dH dP Rv gv eD xP jI oV av1 uV av3 kH)
theorem aHf {l:List Nat}(hs:l.Pairwise (· < ·)){j:Nat}(hj:j < l.length):l.idxOf (l.getD j 0)=j:=by
 have e:l.getD j 0=l[j]:=by rw[gdE,gEg hj];rfl
 have hm:l[j] ∈ l:=List.getElem_mem hj
 have h1:=List.idxOf_lt_length_of_mem hm
 have h2:l[l.idxOf l[j]]=l[j]:=List.getElem_idxOf h1
 rw[e]
 rcases Nat.lt_trichotomy (l.idxOf l[j]) j with h|h|h
 ·have:=List.pairwise_iff_getElem.1 hs _ _ h1 hj h;omega
 ·exact h
 ·have:=List.pairwise_iff_getElem.1 hs _ _ hj h1 h;omega
theorem aVf {n:In}{T U:List Int}(h:∀ r ∈ eF n,dP T r=dP U r):dH n T=dH n U:=by
 have ma:0 < ar n.op->n.a ∈ eF n:=fun u=>by
  rcases Cde.jU n.op with e|e|e|e|e
  ·have:ar n.op=-1:=e;omega
  ·have:ar n.op=0:=e;omega
  ·rw[xP e];simp
  ·rw[jI e];simp
  ·rw[oV e];simp
 have mb:1 < ar n.op->n.b ∈ eF n:=fun u=>by
  rcases Cde.jU n.op with e|e|e|e|e
  ·have:ar n.op=-1:=e;omega
  ·have:ar n.op=0:=e;omega
  ·have:ar n.op=1:=e;omega
  ·rw[jI e];simp
  ·rw[oV e];simp
 have mc:2 < ar n.op->n.c ∈ eF n:=fun u=>by
  rcases Cde.jU n.op with e|e|e|e|e
  ·have:ar n.op=-1:=e;omega
  ·have:ar n.op=0:=e;omega
  ·have:ar n.op=1:=e;omega
  ·have:ar n.op=2:=e;omega
  ·rw[oV e];simp
 have ea:(if 0 < ar n.op then dP T n.a else n.a)=if 0 < ar n.op then dP U n.a else n.a:=by
  split
  ·exact h _ (ma ‹_›)
  ·rfl
 have eb:(if 1 < ar n.op then dP T n.b else n.b)=if 1 < ar n.op then dP U n.b else n.b:=by
  split
  ·exact h _ (mb ‹_›)
  ·rfl
 have ec:(if 2 < ar n.op then dP T n.c else n.c)=if 2 < ar n.op then dP U n.c else n.c:=by
  split
  ·exact h _ (mc ‹_›)
  ·rfl
 unfold dH
 rw[ea,eb,ec]
end
section
open Go.RowKit Go.IntWalk Knd
open Cde (In i0 eF bE eH kM)
theorem yS {A:List Int}{r i:Nat}{x:Int}:(A.set r x).getD i 0=if i=r/\r < A.length then x else A.getD i 0:=by
 rw[gdE,List.getElem?_set,gdE]
 by_cases e:r=i
 ·subst e
  by_cases h:r < A.length
  ·simp[h]
  ·simp[h]
 ·rw[if_neg e,if_neg (by omega)]
theorem aN3 {n i:Nat}:(List.replicate n (0:Int)).getD i 0=0:=by
 rw[gdE,List.getElem?_replicate]
 split <;> rfl
def toK (l:List Nat)(n k:Nat):List Int:=(List.range k).foldl (fun T j=>T.set (l.getD j 0) (j:Int)) (List.replicate n 0)
theorem aRb (l:List Nat)(n:Nat):toK l n 0=List.replicate n 0:=rfl
theorem aAi (l:List Nat)(n k:Nat):toK l n (k+1)=(toK l n k).set (l.getD k 0) (k:Int):=by
 unfold toK
 rw[List.range_succ,List.foldl_append]
 rfl
theorem oL (l:List Nat)(n:Nat):∀ k,(toK l n k).length=n
 | 0=>by simp[toK]
 | k+1=>by rw[aAi,List.length_set,oL l n k]
theorem aD3 {l:List Nat}{n:Nat}(hs:l.Pairwise (· < ·))(hl:∀ i ∈ l,i < n){i:Nat}:∀ k,k<=l.length->(toK l n k).getD i 0=if i ∈ l/\l.idxOf i < k then((l.idxOf i:Nat):Int) else 0
 | 0,_=>by rw[aRb,aN3,if_neg (by omega)]
 | k+1,hk=>by
  have hg:l.getD k 0 ∈ l:=Cde.pX 0 (by omega)
  have hi:=aHf hs (show k < l.length by omega)
  rw[aAi,yS,aD3 hs hl k (by omega),oL]
  by_cases e:i=l.getD k 0
  ·rw[if_pos ⟨e,hl _ hg⟩,e,hi,if_pos ⟨hg,by omega⟩]
  ·rw[if_neg fun hc=>e hc.1]
   by_cases hm:i ∈ l
   ·have hne:l.idxOf i≠k:=fun hc=>by
     have h1:=List.idxOf_lt_length_of_mem hm
     have h2:l[l.idxOf i]=i:=List.getElem_idxOf h1
     have h3:l.getD (l.idxOf i) 0=i:=by rw[gdE,gEg h1,oGs];exact h2
     rw[hc] at h3
     exact e h3.symm
    by_cases hlt:l.idxOf i < k
    ·rw[if_pos ⟨hm,hlt⟩,if_pos ⟨hm,by omega⟩]
    ·rw[if_neg fun hc=>hlt hc.2,if_neg fun hc=>by omega]
   ·rw[if_neg fun hc=>hm hc.1,if_neg fun hc=>hm hc.1]
theorem aRa {L:List In}{out:Int}(hp:Pc L out):toK (dU L out) L.length (dU L out).length=toL L out:=by
 apply List.ext_getElem (by rw[oL,aD4])
 intro i h1 h2
 have hi:i < L.length:=by rw[oL] at h1;exact h1
 have e:=aD3 (l:=dU L out) (n:=L.length) (i:=i) (lK L out) (fun j hj=>((gT hp.ok hp.o1).1 hj).1) (dU L out).length (nLr _)
 rw[gdE,gEg h1,oGs] at e
 have e2:(toL L out)[i]=if (lvM L out).getD i false=true then(((dU L out).idxOf i:Nat):Int) else 0:=by simp[toL]
 refine Eq.trans e (Eq.trans ?_ e2.symm)
 have hb:=((aOt hp.ok hp.o1).iff hp.ok hp.o1 i)
 by_cases hm:i ∈ dU L out
 ·rw[if_pos ⟨hm,List.idxOf_lt_length_of_mem hm⟩,if_pos (hb.2 ((gT hp.ok hp.o1).1 hm).2)]
 ·rw[if_neg fun hc=>hm hc.1,if_neg fun hc=>hm ((gT hp.ok hp.o1).2 ⟨hi,hb.1 hc⟩)]
end
open Go.RowKit Go.IntWalk Knd
open Cde (In i0 eF bE eH kM)
open Fld (dH dP)
variable {L:List In} {out:Int} {k:Nat}
theorem Mk.one {B:List Bool}(h:Mk L out k B)(hp:Pc L out){i:Nat}(hi:k<=i+1):B.getD i false=true↔Lv L out i:=by
 refine⟨h.lv i,fun hl=>?_⟩
 have:k<=i+1->B.getD i false=true:=by
  induction hl with
  | ans=>intro _;exact h.ans
  | @arg j r h1 h2 ih =>
   intro hk
   have hj:j < L.length:=by have:=aJb hp.ok hp.o1 h1;have:=hp.o1;omega
   have:=(Vfy.pK (Cde.dE hp.ok hj) h2).2
   exact h.cl j (by omega) hj (ih (by omega) (by omega)) r h2
 exact this hi
theorem Mk.top (hp:Pc L out):Mk L out (out.toNat+1) ((List.replicate L.length false).set out.toNat true):=by
 have h:=Mk.start (L:=L) (out:=out) hp.o1
 refine⟨h.len,h.lv,h.ans,fun i h1 h2 h3=>?_⟩
 have:=aJb hp.ok hp.o1 (h.lv i h3)
 omega
theorem Mk.yes {B:List Bool}(h:Mk L out (k+1) B)(hp:Pc L out)(hk:k < L.length)(hb:B.getD k false=true):Mk L out k (mkA B (eF (L.getD k i0))):=by
 have e:=h.step hk (Cde.dE hp.ok hk)
 rwa[lvS,if_pos hb] at e
theorem Mk.no {B:List Bool}(h:Mk L out (k+1) B)(hp:Pc L out)(hk:k < L.length)(hb:B.getD k false=false):Mk L out k B:=by
 have e:=h.step hk (Cde.dE hp.ok hk)
 rwa[lvS,if_neg (by rw[hb];decide)] at e
theorem aO1 (B:List Bool)(P:List Int)(r:Int):mkA B (P++[r])=(mkA B P).set r.toNat true:=by
 unfold mkA;rw[List.foldl_append];rfl
def lvJ (L:List In)(out:Int)(j:Nat):List Int:=(((dU L out).filter fun i=>decide (j<=i)).reverse).map fun i:Nat=>(i:Int)
def lvZ (L:List In)(out:Int):List Int:=(dU L out).map fun i:Nat=>(i:Int)
theorem aBw:∀ {l:List Nat} {j:Nat},l.Pairwise (· < ·)->j ∈ l->l.filter (fun i=>decide (j<=i))=j::l.filter (fun i=>decide (j+1<=i))
 | [],j,_,h=>by simp at h
 | x::l,j,hs,h=>by
  rw[List.pairwise_cons] at hs
  rcases lMm.1 h with rfl|h
  ·rw[List.filter_cons_of_pos (by simp),List.filter_cons_of_neg (by simp)]
   congr 1
   apply List.filter_congr
   intro y hy
   have:=hs.1 y hy
   rw[Bool.eq_iff_iff,decide_eq_true_iff,decide_eq_true_iff]
   omega
  ·have:=hs.1 j h
   rw[List.filter_cons_of_neg (by simp;omega),List.filter_cons_of_neg (by simp;omega)]
   exact aBw hs.2 h
theorem aTr (hp:Pc L out):lvJ L out (out.toNat+1)=[]:=by
 unfold lvJ
 have:(dU L out).filter (fun i=>decide (out.toNat+1<=i))=[]:=by
  rw[List.filter_eq_nil_iff]
  intro i hi
  have:=aJb hp.ok hp.o1 ((gT hp.ok hp.o1).1 hi).2
  simp;omega
 rw[this];rfl
theorem aTs (hp:Pc L out){j:Nat}(hj:j < L.length)(h:Lv L out j):lvJ L out j=lvJ L out (j+1)++[(j:Int)]:=by
 unfold lvJ
 rw[aBw (lK L out) ((gT hp.ok hp.o1).2 ⟨hj,h⟩),List.reverse_cons,List.map_append]
 rfl
theorem aXp (hp:Pc L out){j:Nat}(h:¬Lv L out j):lvJ L out j=lvJ L out (j+1):=by
 unfold lvJ
 congr 2
 apply List.filter_congr
 intro i hi
 have:i≠j:=fun e=>h (e ▸ ((gT hp.ok hp.o1).1 hi).2)
 rw[Bool.eq_iff_iff,decide_eq_true_iff,decide_eq_true_iff]
 omega
theorem aOs (L:List In)(out:Int):(lvJ L out 0).reverse=lvZ L out:=by
 unfold lvJ lvZ
 have:(dU L out).filter (fun i=>decide (0<=i))=dU L out:=by
  rw[List.filter_eq_self];intro i _;simp
 rw[this,<-List.map_reverse,List.reverse_reverse]
theorem aTq (L:List In)(out:Int)(j:Nat):(lvJ L out j).length<=L.length:=by
 unfold lvJ
 rw[List.length_map,List.length_reverse]
 exact Nat.le_trans (List.length_filter_le _ _) (aC1 L out)
theorem aC2 (L:List In)(out:Int):(lvZ L out).length=(dU L out).length:=by simp[lvZ]
theorem aXr (hk:k < (dU L out).length):(lvZ L out).getD k 0=(((dU L out).getD k 0:Nat):Int):=by
 unfold lvZ
 rw[gdE,gEm,gdE,gEg hk]
 rfl
def prK (L:List In)(out:Int)(k:Nat):List In:=(sQ L out).take k
theorem Pc.th {L:List In}{out:Int}(h:Pc L out){k:Nat}(hk:k < (dU L out).length):dH (L.getD ((dU L out).getD k 0) i0) (toK (dU L out) L.length (k+1))=(sQ L out).getD k i0:=by
 rw[aDf hk]
 apply aVf
 intro r hr
 obtain⟨r0,r1,r2,r3,r4⟩:=h.reg hk hr
 rw[r2]
 unfold dP
 have hl:=((gT h.ok h.o1).1 r1).1
 rw[oL,if_neg (by omega),aD3 (lK L out) (fun j hj=>((gT h.ok h.o1).1 hj).1) (k+1) (by omega),if_pos ⟨r1,by omega⟩]
theorem aPv (hk:k < (dU L out).length):prK L out (k+1)=prK L out k++[(sQ L out).getD k i0]:=Cde.aG i0 (by rw[jE];exact hk)
theorem aUl (hk:k<=(dU L out).length):(prK L out k).length=k:=by
 unfold prK;rw[lLt,jE];omega
theorem aPu (L:List In)(out:Int):prK L out (dU L out).length=sQ L out:=lTl (by rw[jE];exact nLr _)
def rvK (D:List Int):Nat->List Int
 | 0=>D
 | k+1=>((rvK D k).set k ((rvK D k).getD (D.length-1-k) 0)).set (D.length-1-k) ((rvK D k).getD k 0)
theorem xK (D:List Int):∀ k,(rvK D k).length=D.length
 | 0=>rfl
 | k+1=>by rw[rvK,List.length_set,List.length_set,xK D k]
theorem aJu (D:List Int):∀(k:Nat),2*k<=D.length->∀ p,p < D.length->(rvK D k).getD p 0=if p < k\/D.length<=p+k then D.getD (D.length-1-p) 0 else D.getD p 0
 | 0,_,p,hp=>by rw[if_neg (by omega)];rfl
 | k+1,hk,p,hp=>by
  have ih:=aJu D k (by omega)
  rw[rvK,yS,yS,List.length_set,xK]
  by_cases h1:p=D.length-1-k
  ·rw[if_pos ⟨h1,by omega⟩,ih k (by omega),if_neg (by omega),if_pos (by omega)]
   congr 1;omega
  ·rw[if_neg (fun hc=>h1 hc.1)]
   by_cases h2:p=k
   ·rw[if_pos ⟨h2,by omega⟩,ih _ (by omega),if_neg (by omega),if_pos (by omega)]
    congr 1;omega
   ·rw[if_neg (fun hc=>h2 hc.1),ih p hp]
    by_cases h3:p < k\/D.length<=p+k
    ·rw[if_pos h3,if_pos (by omega)]
    ·rw[if_neg h3,if_neg (by omega)]
theorem aUz (D:List Int)(h1:2*k<=D.length)(h2:D.length<=2*k+1):rvK D k=D.reverse:=by
 apply List.ext_getElem (by rw[xK,List.length_reverse])
 intro p q1 q2
 have hp:p < D.length:=by rw[xK] at q1;exact q1
 have e:=aJu D k h1 p hp
 rw[gdE,gEg q1,oGs] at e
 have e2:D.getD (D.length-1-p) 0=D[D.length-1-p]:=by rw[gdE,gEg (by omega),oGs]
 rw[e,List.getElem_reverse,<-e2]
 split
 ·rfl
 ·congr 1;omega
end Go.Proofs.Prn
