import Derived.Test.YtihbhbeaihdgnaaGreatXH
import Derived.Test.YtihbhbeaihdgnaaGreatX39
import Derived.Test.YtihbhbeaihdgnaaGreatX22
set_option maxRecDepth 100000
set_option maxHeartbeats 32000000
set_option linter.unusedVariables false
namespace Go.Proofs.Prn
open Go.RowKit Go.IntWalk Knd
open YtihbhbeaihdgnaaGreat (Wd fD Fits inpV)
open Cde (In i0 dN bY bB dX jW eH jE dA tN oW iR iA nG rG rF)
open Vfy (nU aZ aL w32 dZ gP yU jZ vI tH rH dM)
open Fld (ar vl rg bW dB Rv gv dL)
open Rdc (lF)
variable {i:Nat} {L:List In} {out:Int}
inductive Lv (L:List In) (out:Int):Nat->Prop
 | ans:Lv L out out.toNat
 | arg {i:Nat} {r:Int}:Lv L out i->r ∈ dN (L.getD i i0)->Lv L out r.toNat
def mkA (B:List Bool)(P:List Int):List Bool:=P.foldl (fun B r=>B.set r.toNat true) B
def lvS (L:List In)(B:List Bool)(i:Nat):List Bool:=if B.getD i false=true then mkA B (dN (L.getD i i0)) else B
def lvM (L:List In)(out:Int):List Bool:=((List.range L.length).reverse).foldl (lvS L) ((List.replicate L.length false).set out.toNat true)
theorem aHp (P:List Int):∀ B:List Bool,(mkA B P).length=B.length:=by
 induction P with
 | nil=>intro B;rfl
 | cons r P ih=>intro B;show (mkA (B.set r.toNat true) P).length=_;rw[ih,List.length_set]
theorem wX {B:List Bool}{r:Nat}:(B.set r true).getD i false=if i=r/\r < B.length then true else B.getD i false:=by
 rw[List.getD_eq_getElem?_getD,List.getElem?_set,List.getD_eq_getElem?_getD]
 by_cases e:r=i
 ·subst e
  by_cases h:r < B.length
  ·simp[h]
  ·simp[h]
 ·rw[if_neg e,if_neg (by omega)]
theorem sN (P:List Int):∀(B:List Bool) (i:Nat),(mkA B P).getD i false=true↔B.getD i false=true\/(i < B.length/\∃ r ∈ P,r.toNat=i):=by
 induction P with
 | nil=>intro B i;simp[mkA]
 | cons r P ih =>
  intro B i
  show (mkA (B.set r.toNat true) P).getD i false=true↔_
  rw[ih,wX,List.length_set]
  constructor
  ·rintro(h|⟨h1,q,h2,h3⟩)
   ·split at h
    ·rename_i e
     exact .inr ⟨by omega,r,by simp,e.1.symm⟩
    ·exact .inl h
   ·exact .inr ⟨h1,q,by simp[h2],h3⟩
  ·rintro(h|⟨h1,q,h2,h3⟩)
   ·left
    split
    ·rfl
    ·exact h
   ·rcases List.mem_cons.1 h2 with rfl|h2
    ·left
     rw[if_pos ⟨h3.symm,by omega⟩]
    ·exact .inr ⟨h1,q,h2,h3⟩
structure Mk (L:List In)(out:Int)(k:Nat)(B:List Bool):Prop where
 len:B.length=L.length
 lv:∀ i,B.getD i false=true->Lv L out i
 ans:B.getD out.toNat false=true
 cl:∀ i,k<=i->i < L.length->B.getD i false=true->∀ r ∈ dN (L.getD i i0),B.getD r.toNat false=true
theorem Mk.step {k:Nat}{B:List Bool}(h:Mk L out (k+1) B)(hk:k < L.length)(ho:bB (L.getD k i0) k=true):Mk L out k (lvS L B k):=by
 unfold lvS
 by_cases hb:B.getD k false=true
 ·rw[if_pos hb]
  have hr:∀ r ∈ dN (L.getD k i0),r.toNat < k:=fun r hr=>(Vfy.nY ho hr).2
  refine⟨by rw[aHp];exact h.len,fun i hi=>?_,(sN _ _ _).2 (.inl h.ans),fun i h1 h2 h3 r h4=>?_⟩
  ·rcases(sN _ _ _).1 hi with h1|⟨-,r,h1,rfl⟩
   ·exact h.lv i h1
   ·exact .arg (h.lv k hb) h1
  ·by_cases e:i=k
   ·subst e
    exact(sN _ _ _).2 (.inr ⟨by have:=hr r h4;have:=h.len;omega,r,h4,rfl⟩)
   ·have hi:B.getD i false=true:=by
     rcases(sN _ _ _).1 h3 with h5|⟨-,q,h5,h6⟩
     ·exact h5
     ·have:=hr q h5
      omega
    exact(sN _ _ _).2 (.inl (h.cl i (by omega) h2 hi r h4))
 ·rw[if_neg hb]
  refine⟨h.len,h.lv,h.ans,fun i h1 h2 h3 r h4=>?_⟩
  by_cases e:i=k
  ·subst e;exact absurd h3 hb
  ·exact h.cl i (by omega) h2 h3 r h4
theorem Mk.start (ho:out.toNat < L.length):Mk L out L.length ((List.replicate L.length false).set out.toNat true):=by
 refine⟨by simp,fun i hi=>?_,?_,fun i h1 h2=>absurd h2 (by omega)⟩
 ·rw[wX] at hi
  split at hi
  ·rename_i e
   rw[e.1];exact .ans
  ·rw[List.getD_eq_getElem?_getD,List.getElem?_replicate] at hi
   split at hi <;> simp at hi
 ·rw[wX,if_pos ⟨rfl,by simpa using ho⟩]
theorem Mk.down {L:List In}{out:Int}(hok:dX L L.length=true):∀(k:Nat) (B:List Bool),k<=L.length->Mk L out k B->Mk L out 0 (((List.range k).reverse).foldl (lvS L) B)
 | 0,B,_,h=>by simpa using h
 | k+1,B,hk,h=>by
  rw[List.range_succ,List.reverse_append]
  show Mk L out 0 (((List.range k).reverse).foldl (lvS L) (lvS L B k))
  exact Mk.down hok k _ (by omega) (h.step (by omega) (Cde.dD hok (by omega)))
theorem aL1 (hok:dX L L.length=true)(ho:out.toNat < L.length):Mk L out 0 (lvM L out):=Mk.down hok L.length _ (Nat.le_refl _) (Mk.start ho)
theorem Mk.iff {B:List Bool}(h:Mk L out 0 B)(hok:dX L L.length=true)(ho:out.toNat < L.length)(i:Nat):B.getD i false=true↔Lv L out i:=by
 refine⟨h.lv i,fun hl=>?_⟩
 have:B.getD i false=true/\i < L.length:=by
  induction hl with
  | ans=>exact⟨h.ans,ho⟩
  | @arg j r h1 h2 ih=>exact⟨h.cl j (Nat.zero_le _) ih.2 ih.1 r h2,by have:=(Vfy.nY (Cde.dD hok ih.2) h2).2;omega⟩
 exact this.1
theorem aHn (hok:dX L L.length=true)(ho:out.toNat < L.length)(h:Lv L out i):i<=out.toNat:=by
 have:i<=out.toNat/\i < L.length:=by
  induction h with
  | ans=>exact⟨Nat.le_refl _,ho⟩
  | @arg j r h1 h2 ih =>
   have:=(Vfy.nY (Cde.dD hok ih.2) h2).2
   exact⟨by omega,by omega⟩
 exact this.1
def dG (L:List In)(out:Int):List Nat:=(List.range L.length).filter fun i=>(lvM L out).getD i false
def toL (L:List In)(out:Int):List Int:=(List.range L.length).map fun i=>if (lvM L out).getD i false=true then(((dG L out).idxOf i:Nat):Int) else 0
def qU (L:List In)(out:Int):List In:=(dG L out).map fun i=>bW (L.getD i i0) (toL L out)
def prO (L:List In)(out:Int):Int:=(toL L out).getD out.toNat 0
theorem fT (hok:dX L L.length=true)(ho:out.toNat < L.length):i ∈ dG L out↔i < L.length/\Lv L out i:=by
 unfold dG
 rw[List.mem_filter,List.mem_range]
 exact and_congr_right fun _=>(aL1 hok ho).iff hok ho i
theorem aOh (hi:i ∈ dG L out):(toL L out).getD i 0=(((dG L out).idxOf i:Nat):Int)/\(dG L out).idxOf i < (dG L out).length/\(dG L out).getD ((dG L out).idxOf i) 0=i:=by
 have h:=hi
 unfold dG at h
 rw[List.mem_filter,List.mem_range] at h
 have hlt:=List.idxOf_lt_length_of_mem hi
 refine⟨?_,hlt,?_⟩
 ·unfold toL
  rw[List.getD_eq_getElem?_getD,List.getElem?_map,List.getElem?_range h.1]
  show (if (lvM L out).getD i false=true then _ else _)=_
  rw[if_pos h.2]
 ·rw[List.getD_eq_getElem?_getD,List.getElem?_eq_getElem hlt]
  simp
end Go.Proofs.Prn
namespace Go.Proofs.Prn
open Go.RowKit Go.IntWalk Knd
open YtihbhbeaihdgnaaGreat (Wd fD Fits inpV)
open Cde (In i0 dN bY bB dX jW eH jE dA tN oW iR iA nG rG rF)
open Vfy (nU aZ aL w32 dZ gP yU jZ vI tH rH dM)
open Fld (ar vl rg bW dB Rv gv dL vW iQ nS zN tJ av3 jQ)
open Rdc (lF)
variable {L:List In} {out:Int} {j:Nat}
theorem aOb (n:In)(T:List Int):dN (bW n T)=(dN n).map (dB T):=by
 rcases Cde.jD n.op with e|e|e|e|e
 ·have e1:dN n=[]:=by unfold dN bY;rw[e];rfl
  have e2:dN (bW n T)=[]:=by unfold dN bY;rw[show Spn.ar (bW n T).op=-1 from e];rfl
  rw[e1,e2];rfl
 ·have e1:dN n=[]:=by unfold dN bY;rw[e];rfl
  have e2:dN (bW n T)=[]:=by unfold dN bY;rw[show Spn.ar (bW n T).op=0 from e];rfl
  rw[e1,e2];rfl
 ·have e':ar n.op=1:=e
  rw[vW e',vW (n:=bW n T) e']
  have ea:(bW n T).a=dB T n.a:=by show (if 0 < ar n.op then dB T n.a else n.a)=_;rw[if_pos (by omega)]
  rw[ea];rfl
 ·have e':ar n.op=2:=e
  rw[iQ e',iQ (n:=bW n T) e']
  have ea:(bW n T).a=dB T n.a:=by show (if 0 < ar n.op then dB T n.a else n.a)=_;rw[if_pos (by omega)]
  have eb:(bW n T).b=dB T n.b:=by show (if 1 < ar n.op then dB T n.b else n.b)=_;rw[if_pos (by omega)]
  rw[ea,eb];rfl
 ·have e':ar n.op=3:=e
  rw[nS e',nS (n:=bW n T) e']
  have ea:(bW n T).a=dB T n.a:=by show (if 0 < ar n.op then dB T n.a else n.a)=_;rw[if_pos (by omega)]
  have eb:(bW n T).b=dB T n.b:=by show (if 1 < ar n.op then dB T n.b else n.b)=_;rw[if_pos (by omega)]
  have ec:(bW n T).c=dB T n.c:=by show (if 2 < ar n.op then dB T n.c else n.c)=_;rw[if_pos (by omega)]
  rw[ea,eb,ec];rfl
theorem aV0 {n:In}{T:List Int}{k m:Nat}(h:∀ r ∈ dN n,dL (dB T r) m)(ho:bB n k=true):bB (bW n T) m=true:=by
 have hc:=Cde.qP ho
 have ha:=Cde.aAn ho
 simp only[bB,rG,Bool.and_eq_true,jQ] at ho
 obtain⟨⟨-,⟨⟨a1,a2⟩,b1,b2⟩,c1,c2⟩,-⟩:=ho
 simp only[decide_eq_true_eq,decide_eq_false_iff_not] at a1 a2 b1 b2 c1 c2
 have hc':nG (bW n T)=true:=hc
 have ma:0 < ar n.op->n.a ∈ dN n:=fun u=>by
  rcases Cde.jD n.op with e|e|e|e|e
  ·have:ar n.op=-1:=e;omega
  ·have:ar n.op=0:=e;omega
  ·rw[vW e];simp
  ·rw[iQ e];simp
  ·rw[nS e];simp
 have mb:1 < ar n.op->n.b ∈ dN n:=fun u=>by
  rcases Cde.jD n.op with e|e|e|e|e
  ·have:ar n.op=-1:=e;omega
  ·have:ar n.op=0:=e;omega
  ·have:ar n.op=1:=e;omega
  ·rw[iQ e];simp
  ·rw[nS e];simp
 have mc:2 < ar n.op->n.c ∈ dN n:=fun u=>by
  rcases Cde.jD n.op with e|e|e|e|e
  ·have:ar n.op=-1:=e;omega
  ·have:ar n.op=0:=e;omega
  ·have:ar n.op=1:=e;omega
  ·have:ar n.op=2:=e;omega
  ·rw[nS e];simp
 simp only[bB,rG,Bool.and_eq_true,jQ,hc',decide_eq_true_eq,decide_eq_false_iff_not]
 refine⟨⟨ha,⟨⟨fun u=>?_,fun u=>?_⟩,fun u=>?_,fun u=>?_⟩,fun u=>?_,fun u=>?_⟩,trivial⟩
 ·show dL (if 0 < ar n.op then dB T n.a else n.a) m
  rw[if_pos (show 0 < ar n.op from u)];exact h _ (ma u)
 ·show (if 0 < ar n.op then dB T n.a else n.a)=0
  rw[if_neg (show ¬0 < ar n.op from u)];exact a2 u
 ·show dL (if 1 < ar n.op then dB T n.b else n.b) m
  rw[if_pos (show 1 < ar n.op from u)];exact h _ (mb u)
 ·show (if 1 < ar n.op then dB T n.b else n.b)=0
  rw[if_neg (show ¬1 < ar n.op from u)];exact b2 u
 ·show dL (if 2 < ar n.op then dB T n.c else n.c) m
  rw[if_pos (show 2 < ar n.op from u)];exact h _ (mc u)
 ·show (if 2 < ar n.op then dB T n.c else n.c)=0
  rw[if_neg (show ¬2 < ar n.op from u)];exact c2 u
theorem kR (L:List In)(out:Int):(dG L out).Pairwise (· < ·):=List.Pairwise.filter _ List.pairwise_lt_range
theorem aUf {p q:Nat}(hp:p < (dG L out).length)(hq:q < (dG L out).length)(h:(dG L out).getD p 0 < (dG L out).getD q 0):p < q:=by
 rcases Nat.lt_trichotomy p q with e|e|e
 ·exact e
 ·subst e;omega
 ·have:=List.pairwise_iff_getElem.1 (kR L out) q p hq hp e
  rw[List.getD_eq_getElem?_getD,List.getElem?_eq_getElem hp,List.getD_eq_getElem?_getD,List.getElem?_eq_getElem hq] at h
  simp at h
  omega
theorem aCv (L:List In)(out:Int):(toL L out).length=L.length:=by simp[toL]
theorem iK (L:List In)(out:Int):(qU L out).length=(dG L out).length:=by simp[qU]
structure Pc (L:List In)(out:Int):Prop where
 ok:dX L L.length=true
 o0:0<=out
 o1:out.toNat < L.length
theorem Pc.mem (h:Pc L out)(hj:j < (dG L out).length):(dG L out).getD j 0 < L.length/\Lv L out ((dG L out).getD j 0):=by
 have:(dG L out).getD j 0 ∈ dG L out:=by rw[List.getD_eq_getElem?_getD,List.getElem?_eq_getElem hj];exact List.getElem_mem _
 exact(fT h.ok h.o1).1 this
theorem Pc.reg (h:Pc L out)(hj:j < (dG L out).length){r:Int}(hr:r ∈ dN (L.getD ((dG L out).getD j 0) i0)) :
  0<=r/\r.toNat ∈ dG L out/\dB (toL L out) r=(((dG L out).idxOf r.toNat:Nat):Int)/\(dG L out).idxOf r.toNat < j/\(dG L out).getD ((dG L out).idxOf r.toNat) 0=r.toNat:=by
 obtain⟨h1,h2⟩:=h.mem hj
 obtain⟨r0,r1⟩:=Vfy.nY (Cde.dD h.ok h1) hr
 have hm:r.toNat ∈ dG L out:=(fT h.ok h.o1).2 ⟨by omega,.arg h2 hr⟩
 obtain⟨t1,t2,t3⟩:=aOh hm
 refine⟨r0,hm,?_,aUf t2 hj (by rw[t3];exact r1),t3⟩
 unfold dB
 rw[aCv,if_neg (by omega),t1]
theorem aB9 (hj:j < (dG L out).length):(qU L out).getD j i0=bW (L.getD ((dG L out).getD j 0) i0) (toL L out):=by
 unfold qU
 rw[List.getD_eq_getElem?_getD,List.getElem?_map,List.getD_eq_getElem?_getD (l:=dG L out),List.getElem?_eq_getElem hj]
 rfl
theorem Pc.okN (h:Pc L out)(hj:j < (dG L out).length):bB ((qU L out).getD j i0) j=true:=by
 rw[aB9 hj]
 refine aV0 (fun r hr=>?_) (Cde.dD h.ok (h.mem hj).1)
 obtain⟨-,-,e,e2,-⟩:=h.reg hj hr
 rw[e]
 exact⟨by omega,by simpa using e2⟩
theorem Pc.vals (h:Pc L out){f d:Int}{v:Wd}{V:List Int}(hV:Rv f d v L V):Rv f d v (qU L out) ((dG L out).map fun i=>V.getD i 0):=by
 have hget:∀ j,j < (dG L out).length->((dG L out).map fun i=>V.getD i 0).getD j 0=V.getD ((dG L out).getD j 0) 0:=fun j hj=>by
  rw[List.getD_eq_getElem?_getD,List.getElem?_map,List.getD_eq_getElem?_getD (l:=dG L out),List.getElem?_eq_getElem hj]
  rfl
 refine⟨by simp[qU],fun j hj=>?_,fun j hj=>?_⟩
 ·exact h.okN (by rw[iK] at hj;exact hj)
 ·rw[iK] at hj
  obtain⟨h1,h2⟩:=h.mem hj
  have hv:=hV.val _ h1
  rw[aB9 hj,hget j hj,<-hv]
  unfold dA
  have e:iA ((dG L out).map fun i=>V.getD i 0) (bW (L.getD ((dG L out).getD j 0) i0) (toL L out))=iA V (L.getD ((dG L out).getD j 0) i0):=by
   unfold iA
   rw[aOb,List.map_map]
   apply List.map_congr_left
   intro r hr
   obtain⟨-,-,e,e2,e3⟩:=h.reg hj hr
   show ((dG L out).map fun i=>V.getD i 0).getD (dB (toL L out) r).toNat 0=V.getD r.toNat 0
   rw[e,Int.toNat_natCast,hget _ (by omega),e3]
  rw[e]
  rfl
end Go.Proofs.Prn
namespace Go.Proofs.Prn
open Go.RowKit Go.IntWalk Knd
open YtihbhbeaihdgnaaGreat (Wd fD Fits inpV)
open Cde (In i0 dN bY bB dX jW eH jE dA tN oW iR iA nG rG rF)
open Vfy (nU aZ aL w32 dZ gP yU jZ vI tH rH dM)
open Fld (ar vl rg bW dB Rv gv dL vW iQ nS zN tJ av3 jQ)
open Rdc (lF)
variable {d f out:Int} {L:List In}
theorem aH2 {S:dM}(h:gP f d L=(0,S))(k:Nat):(gP f d (L.take k)).1=0:=by
 by_cases hc:(gP f d (L.take k)).1=0
 ·exact hc
 ·have e:=Vfy.aCi (L:=L) (k:=k) rfl hc
  rw[h] at e
  rw[<-e] at hc
  exact absurd rfl hc
theorem aRm {S:dM}(hok:dX L L.length=true)(h:gP f d L=(0,S)){i:Nat}(hi:i < L.length):jZ f d S (L.getD i i0)=(S.getD i (0,0),0):=by
 have e1:=aH2 h i
 have e2:=aH2 h (i+1)
 have l1:=Vfy.sU f d L i (by omega) e1
 have q1:gP f d (L.take i)=(0,(gP f d (L.take i)).2):=Prod.ext e1 rfl
 generalize (gP f d (L.take i)).2=A at q1 l1
 rw[Cde.aH i0 hi,Vfy.iM,q1,yU,if_pos rfl] at e2
 have hn:(jZ f d A (L.getD i i0)).2=0:=by
  by_cases hc:(jZ f d A (L.getD i i0)).2=0
  ·exact hc
  ·rw[if_neg hc] at e2;exact e2
 have q2:=Rdc.aCk (n:=L.getD i i0) (s:=(jZ f d A (L.getD i i0)).1) q1 (Prod.ext rfl hn)
 rw[<-Cde.aH i0 hi] at q2
 obtain⟨Z,hZ⟩:=Rdc.aNt (L.drop (i+1)) (L.take (i+1)) _ S q2 (by rw[List.take_append_drop];exact h)
 have e3:jZ f d S (L.getD i i0)=jZ f d A (L.getD i i0):=by
  rw[hZ,List.append_assoc];exact Vfy.aCj (by rw[l1];exact Cde.dD hok hi)
 have e4:S.getD i (0,0)=(jZ f d A (L.getD i i0)).1:=by
  rw[hZ]
  simp[List.getD_eq_getElem?_getD,<-l1]
 rw[e3,e4]
 exact Prod.ext rfl hn
theorem aEp {f d:Int}{L:List In}{S:dM}(hok:∀ i,i < L.length->bB (L.getD i i0) i=true)(hl:S.length=L.length)(h:∀ i,i < L.length->jZ f d S (L.getD i i0)=(S.getD i (0,0),0)):∀ k,k<=L.length->gP f d (L.take k)=(0,S.take k)
 | 0,_=>by simp[gP]
 | k+1,hk=>by
  have ih:=aEp hok hl h k (by omega)
  rw[Cde.aH i0 (by omega),Cde.aH (0,0) (by omega)]
  refine Rdc.aCk ih ?_
  rw[<-h k (by omega)]
  have e:=Vfy.aCj (f:=f) (d:=d) (S:=S.take k) (Z:=S.drop k) (n:=L.getD k i0) (by rw[List.length_take,Nat.min_eq_left (by omega)];exact hok k (by omega))
  rw[List.take_append_drop] at e
  exact e.symm
theorem aVs {S:dM}(hok:∀ i,i < L.length->bB (L.getD i i0) i=true)(hl:S.length=L.length)(h:∀ i,i < L.length->jZ f d S (L.getD i i0)=(S.getD i (0,0),0)):gP f d L=(0,S):=by
 have:=aEp hok hl h L.length (Nat.le_refl _)
 rwa[List.take_length,<-hl,List.take_length] at this
theorem Pc.okA (h:Pc L out):∀ j,j < (qU L out).length->bB ((qU L out).getD j i0) j=true:=fun j hj=>h.okN (by rw[iK] at hj;exact hj)
theorem Pc.sgs (h:Pc L out){S:dM}(hS:gP f d L=(0,S)):gP f d (qU L out)=(0,(dG L out).map fun i=>S.getD i (0,0)):=by
 have hget:∀ j,j < (dG L out).length->((dG L out).map fun i=>S.getD i (0,0)).getD j (0,0)=S.getD ((dG L out).getD j 0) (0,0):=fun j hj=>by
  rw[List.getD_eq_getElem?_getD,List.getElem?_map,List.getD_eq_getElem?_getD (l:=dG L out),List.getElem?_eq_getElem hj]
  rfl
 refine aVs h.okA (by simp[qU]) fun j hj=>?_
 rw[iK] at hj
 obtain⟨h1,h2⟩:=h.mem hj
 have hv:=aRm h.ok hS h1
 rw[aB9 hj,hget j hj,<-hv]
 have e:vI ((dG L out).map fun i=>S.getD i (0,0)) (bW (L.getD ((dG L out).getD j 0) i0) (toL L out))=vI S (L.getD ((dG L out).getD j 0) i0):=by
  unfold vI
  rw[aOb,List.map_map]
  apply List.map_congr_left
  intro r hr
  obtain⟨-,-,e,e2,e3⟩:=h.reg hj hr
  show ((dG L out).map fun i=>S.getD i (0,0)).getD (dB (toL L out) r).toNat (0,0)=S.getD r.toNat (0,0)
  rw[e,Int.toNat_natCast,hget _ (by omega),e3]
 unfold jZ
 rw[e]
 rfl
theorem aC6 (n:In)(L:List In):eH (n::L)=jE n.op+eH L:=by
 have e:n::L=[n]++L:=rfl
 rw[e,lF]
 have:eH [n]=jE n.op:=by simp[eH]
 omega
theorem zU (F G:Nat->In)(hF:∀ i,(F i).op=(G i).op)(p:Nat->Bool):∀ I:List Nat,eH ((I.filter p).map F)<=eH (I.map G)
 | []=>by simp
 | i::I=>by
  have ih:=zU F G hF p I
  have:=(Cde.aKw (G i).op).1
  rw[List.map_cons,aC6]
  by_cases hp:p i=true
  ·rw[List.filter_cons_of_pos hp,List.map_cons,aC6,hF];omega
  ·rw[List.filter_cons_of_neg hp];omega
theorem aJl (L:List In):(List.range L.length).map (fun i=>L.getD i i0)=L:=by
 apply List.ext_getElem (by simp)
 intro i h1 h2
 simp[List.getD_eq_getElem?_getD,List.getElem?_eq_getElem h2]
theorem aEc (L:List In)(out:Int):eH (qU L out)<=eH L:=by
 have:=zU (fun i=>bW (L.getD i i0) (toL L out)) (fun i=>L.getD i i0) (fun i=>rfl) (fun i=>(lvM L out).getD i false) (List.range L.length)
 rw[aJl] at this
 exact this
theorem aBs (L:List In)(out:Int):(dG L out).length<=L.length:=by
 have:=List.length_filter_le (fun i=>(lvM L out).getD i false) (List.range L.length)
 rwa[List.length_range] at this
theorem Pc.ans {L:List In}{out:Int}(h:Pc L out):out.toNat ∈ dG L out:=(fT h.ok h.o1).2 ⟨h.o1,.ans⟩
theorem Pc.last (h:Pc L out):prO L out=((dG L out).length:Int)-1/\1<=(dG L out).length/\(dG L out).getD ((dG L out).length-1) 0=out.toNat:=by
 obtain⟨t1,t2,t3⟩:=aOh h.ans
 have hl:(dG L out).idxOf out.toNat=(dG L out).length-1:=by
  by_cases e:(dG L out).idxOf out.toNat=(dG L out).length-1
  ·exact e
  ·have hq:(dG L out).length-1 < (dG L out).length:=by omega
   have hp:=List.pairwise_iff_getElem.1 (kR L out) _ _ t2 hq (by omega)
   have hm:=(fT h.ok h.o1).1 (List.getElem_mem hq)
   have:=aHn h.ok h.o1 hm.2
   rw[List.getD_eq_getElem?_getD,List.getElem?_eq_getElem t2,Option.getD_some] at t3
   omega
 rw[hl] at t1 t3
 refine⟨?_,by omega,t3⟩
 unfold prO
 rw[t1]
 omega
theorem aD9 (h:jW f d L out=true):Pc L out:=by
 obtain⟨-,-,-,h0,h1,ho⟩:=Cde.aT h
 exact⟨ho,h0,by omega⟩
theorem aU4 (h:∀ j,j < L.length->bB (L.getD j i0) j=true):dX L L.length=true:=by
 unfold dX
 rw[List.all_eq_true]
 intro i hi
 exact h i (List.mem_range.1 hi)
theorem aSw (h:jW f d L out=true):jW f d (qU L out) (prO L out)=true:=by
 obtain⟨hm,h1,h2,h3,h4,ho⟩:=Cde.aT h
 have hp:=aD9 h
 obtain⟨l1,l2,-⟩:=hp.last
 have:=aBs L out
 have e:=iK L out
 simp only[jW,Bool.and_eq_true,decide_eq_true_eq,Spn.aO]
 refine⟨⟨⟨hm,?_⟩,?_⟩,aU4 hp.okA⟩
 ·omega
 ·omega
theorem aM4 (h:aZ f d L out=0):aZ f d (qU L out) (prO L out)=0:=by
 obtain⟨m,ha,⟨S,hS,hSl,hs⟩,hc,-⟩:=aL h
 have hp:=aD9 m
 rw[Vfy.aC0,Vfy.vN]
 refine⟨⟨aSw m,?_⟩,by rw[hp.sgs hS],by have:=aEc L out;omega⟩
 rw[List.any_eq_false] at ha ⊢
 intro n hn
 unfold qU at hn
 obtain⟨i,hi,rfl⟩:=List.mem_map.1 hn
 have hi2:=((fT hp.ok hp.o1).1 hi).1
 exact ha (L.getD i i0) (Cde.oH i0 hi2)
theorem aM3 (h:aZ f d L out=0){v:Wd}(hF:Fits f d v) :
  ∃ V U,iR f d v L out=(0,V)/\iR f d v (qU L out) (prO L out)=(0,U)/\V.length=L.length/\U.length=(qU L out).length/\0<=prO L out/\(prO L out).toNat < (qU L out).length/\U.getD (prO L out).toNat 0=V.getD out.toNat 0:=by
 obtain⟨m,-⟩:=aL h
 have hp:=aD9 m
 obtain⟨l1,l2,l3⟩:=hp.last
 obtain⟨V,hV,hVl,hO⟩:=Rdc.aD1 h hF
 have hU:=hp.vals hO.rv
 refine⟨V,_,hV,by rw[iR,if_pos (aSw m),if_pos hF];exact Rdc.aOl hU,hVl,hU.len,by omega,by rw[iK];omega,?_⟩
 have e:(prO L out).toNat=(dG L out).length-1:=by omega
 have hq:(dG L out).length-1 < (dG L out).length:=by omega
 rw[e,List.getD_eq_getElem?_getD,List.getElem?_map,List.getElem?_eq_getElem hq]
 rw[List.getD_eq_getElem?_getD,List.getElem?_eq_getElem hq,Option.getD_some] at l3
 show V.getD ((dG L out)[(dG L out).length-1]) 0=_
 rw[l3]
end Go.Proofs.Prn
namespace Go.Proofs.Prn
open Go.RowKit Go.IntWalk Knd
open YtihbhbeaihdgnaaGreat (Wd fD Fits inpV)
open Cde (In i0 dN bY bB dX jW eH jE dA tN oW iR iA nG rG rF usU ctR agA)
open Vfy (nU aZ aL w32 dZ gP yU jZ vI tH rH dM)
open Fld (ar vl rg bW dB Rv gv dL vW iQ nS zN tJ av3 jQ)
theorem aFs {l:List Nat}(hs:l.Pairwise (· < ·)){j:Nat}(hj:j < l.length):l.idxOf (l.getD j 0)=j:=by
 have e:l.getD j 0=l[j]:=by rw[List.getD_eq_getElem?_getD,List.getElem?_eq_getElem hj];rfl
 have hm:l[j] ∈ l:=List.getElem_mem hj
 have h1:=List.idxOf_lt_length_of_mem hm
 have h2:l[l.idxOf l[j]]=l[j]:=List.getElem_idxOf h1
 rw[e]
 rcases Nat.lt_trichotomy (l.idxOf l[j]) j with h|h|h
 ·have:=List.pairwise_iff_getElem.1 hs _ _ h1 hj h;omega
 ·exact h
 ·have:=List.pairwise_iff_getElem.1 hs _ _ hj h1 h;omega
theorem aR2 {n:In}{T U:List Int}(h:∀ r ∈ dN n,dB T r=dB U r):bW n T=bW n U:=by
 have ma:0 < ar n.op->n.a ∈ dN n:=fun u=>by
  rcases Cde.jD n.op with e|e|e|e|e
  ·have:ar n.op=-1:=e;omega
  ·have:ar n.op=0:=e;omega
  ·rw[vW e];simp
  ·rw[iQ e];simp
  ·rw[nS e];simp
 have mb:1 < ar n.op->n.b ∈ dN n:=fun u=>by
  rcases Cde.jD n.op with e|e|e|e|e
  ·have:ar n.op=-1:=e;omega
  ·have:ar n.op=0:=e;omega
  ·have:ar n.op=1:=e;omega
  ·rw[iQ e];simp
  ·rw[nS e];simp
 have mc:2 < ar n.op->n.c ∈ dN n:=fun u=>by
  rcases Cde.jD n.op with e|e|e|e|e
  ·have:ar n.op=-1:=e;omega
  ·have:ar n.op=0:=e;omega
  ·have:ar n.op=1:=e;omega
  ·have:ar n.op=2:=e;omega
  ·rw[nS e];simp
 have ea:(if 0 < ar n.op then dB T n.a else n.a)=if 0 < ar n.op then dB U n.a else n.a:=by
  split
  ·exact h _ (ma ‹_›)
  ·rfl
 have eb:(if 1 < ar n.op then dB T n.b else n.b)=if 1 < ar n.op then dB U n.b else n.b:=by
  split
  ·exact h _ (mb ‹_›)
  ·rfl
 have ec:(if 2 < ar n.op then dB T n.c else n.c)=if 2 < ar n.op then dB U n.c else n.c:=by
  split
  ·exact h _ (mc ‹_›)
  ·rfl
 unfold bW
 rw[ea,eb,ec]
end Go.Proofs.Prn
namespace Go.Proofs.Prn
open Go.RowKit Go.IntWalk Knd
open Cde (In i0 dN bB dX jW)
theorem wY {A:List Int}{r i:Nat}{x:Int}:(A.set r x).getD i 0=if i=r/\r < A.length then x else A.getD i 0:=by
 rw[List.getD_eq_getElem?_getD,List.getElem?_set,List.getD_eq_getElem?_getD]
 by_cases e:r=i
 ·subst e
  by_cases h:r < A.length
  ·simp[h]
  ·simp[h]
 ·rw[if_neg e,if_neg (by omega)]
theorem aLf {n i:Nat}:(List.replicate n (0:Int)).getD i 0=0:=by
 rw[List.getD_eq_getElem?_getD,List.getElem?_replicate]
 split <;> rfl
def toK (l:List Nat)(n k:Nat):List Int:=(List.range k).foldl (fun T j=>T.set (l.getD j 0) (j:Int)) (List.replicate n 0)
theorem aOg (l:List Nat)(n:Nat):toK l n 0=List.replicate n 0:=rfl
theorem yL (l:List Nat)(n k:Nat):toK l n (k+1)=(toK l n k).set (l.getD k 0) (k:Int):=by
 unfold toK
 rw[List.range_succ,List.foldl_append]
 rfl
theorem nP (l:List Nat)(n:Nat):∀ k,(toK l n k).length=n
 | 0=>by simp[toK]
 | k+1=>by rw[yL,List.length_set,nP l n k]
theorem aCu {l:List Nat}{n:Nat}(hs:l.Pairwise (· < ·))(hl:∀ i ∈ l,i < n){i:Nat}:∀ k,k<=l.length->(toK l n k).getD i 0=if i ∈ l/\l.idxOf i < k then((l.idxOf i:Nat):Int) else 0
 | 0,_=>by rw[aOg,aLf,if_neg (by omega)]
 | k+1,hk=>by
  have hg:l.getD k 0 ∈ l:=Cde.oH 0 (by omega)
  have hi:=aFs hs (show k < l.length by omega)
  rw[yL,wY,aCu hs hl k (by omega),nP]
  by_cases e:i=l.getD k 0
  ·rw[if_pos ⟨e,hl _ hg⟩,e,hi,if_pos ⟨hg,by omega⟩]
  ·rw[if_neg fun hc=>e hc.1]
   by_cases hm:i ∈ l
   ·have hne:l.idxOf i≠k:=fun hc=>by
     have h1:=List.idxOf_lt_length_of_mem hm
     have h2:l[l.idxOf i]=i:=List.getElem_idxOf h1
     have h3:l.getD (l.idxOf i) 0=i:=by rw[List.getD_eq_getElem?_getD,List.getElem?_eq_getElem h1,Option.getD_some];exact h2
     rw[hc] at h3
     exact e h3.symm
    by_cases hlt:l.idxOf i < k
    ·rw[if_pos ⟨hm,hlt⟩,if_pos ⟨hm,by omega⟩]
    ·rw[if_neg fun hc=>hlt hc.2,if_neg fun hc=>by omega]
   ·rw[if_neg fun hc=>hm hc.1,if_neg fun hc=>hm hc.1]
theorem aOf {L:List In}{out:Int}(hp:Pc L out):toK (dG L out) L.length (dG L out).length=toL L out:=by
 apply List.ext_getElem (by rw[nP,aCv])
 intro i h1 h2
 have hi:i < L.length:=by rw[nP] at h1;exact h1
 have e:=aCu (l:=dG L out) (n:=L.length) (i:=i) (kR L out) (fun j hj=>((fT hp.ok hp.o1).1 hj).1) (dG L out).length (Nat.le_refl _)
 rw[List.getD_eq_getElem?_getD,List.getElem?_eq_getElem h1,Option.getD_some] at e
 have e2:(toL L out)[i]=if (lvM L out).getD i false=true then(((dG L out).idxOf i:Nat):Int) else 0:=by simp[toL]
 refine Eq.trans e (Eq.trans ?_ e2.symm)
 have hb:=((aL1 hp.ok hp.o1).iff hp.ok hp.o1 i)
 by_cases hm:i ∈ dG L out
 ·rw[if_pos ⟨hm,List.idxOf_lt_length_of_mem hm⟩,if_pos (hb.2 ((fT hp.ok hp.o1).1 hm).2)]
 ·rw[if_neg fun hc=>hm hc.1,if_neg fun hc=>hm ((fT hp.ok hp.o1).2 ⟨hi,hb.1 hc⟩)]
end Go.Proofs.Prn
namespace Go.Proofs.Prn
open Go.RowKit Go.IntWalk Knd
open Cde (In i0 dN bB dX jW)
open Fld (bW dB)
variable {L:List In} {out:Int} {k:Nat}
theorem Mk.one {B:List Bool}(h:Mk L out k B)(hp:Pc L out){i:Nat}(hi:k<=i+1):B.getD i false=true↔Lv L out i:=by
 refine⟨h.lv i,fun hl=>?_⟩
 have:k<=i+1->B.getD i false=true:=by
  induction hl with
  | ans=>intro _;exact h.ans
  | @arg j r h1 h2 ih =>
   intro hk
   have hj:j < L.length:=by have:=aHn hp.ok hp.o1 h1;have:=hp.o1;omega
   have:=(Vfy.nY (Cde.dD hp.ok hj) h2).2
   exact h.cl j (by omega) hj (ih (by omega) (by omega)) r h2
 exact this hi
theorem Mk.top (hp:Pc L out):Mk L out (out.toNat+1) ((List.replicate L.length false).set out.toNat true):=by
 have h:=Mk.start (L:=L) (out:=out) hp.o1
 refine⟨h.len,h.lv,h.ans,fun i h1 h2 h3=>?_⟩
 have:=aHn hp.ok hp.o1 (h.lv i h3)
 omega
theorem Mk.yes {B:List Bool}(h:Mk L out (k+1) B)(hp:Pc L out)(hk:k < L.length)(hb:B.getD k false=true):Mk L out k (mkA B (dN (L.getD k i0))):=by
 have e:=h.step hk (Cde.dD hp.ok hk)
 rwa[lvS,if_pos hb] at e
theorem Mk.no {B:List Bool}(h:Mk L out (k+1) B)(hp:Pc L out)(hk:k < L.length)(hb:B.getD k false=false):Mk L out k B:=by
 have e:=h.step hk (Cde.dD hp.ok hk)
 rwa[lvS,if_neg (by rw[hb];decide)] at e
theorem aL9 (B:List Bool)(P:List Int)(r:Int):mkA B (P++[r])=(mkA B P).set r.toNat true:=by
 unfold mkA;rw[List.foldl_append];rfl
def lvJ (L:List In)(out:Int)(j:Nat):List Int:=(((dG L out).filter fun i=>decide (j<=i)).reverse).map fun i:Nat=>(i:Int)
def lvZ (L:List In)(out:Int):List Int:=(dG L out).map fun i:Nat=>(i:Int)
theorem aAt:∀ {l:List Nat} {j:Nat},l.Pairwise (· < ·)->j ∈ l->l.filter (fun i=>decide (j<=i))=j::l.filter (fun i=>decide (j+1<=i))
 | [],j,_,h=>by simp at h
 | x::l,j,hs,h=>by
  rw[List.pairwise_cons] at hs
  rcases List.mem_cons.1 h with rfl|h
  ·rw[List.filter_cons_of_pos (by simp),List.filter_cons_of_neg (by simp)]
   congr 1
   apply List.filter_congr
   intro y hy
   have:=hs.1 y hy
   rw[Bool.eq_iff_iff,decide_eq_true_iff,decide_eq_true_iff]
   omega
  ·have:=hs.1 j h
   rw[List.filter_cons_of_neg (by simp;omega),List.filter_cons_of_neg (by simp;omega)]
   exact aAt hs.2 h
theorem aQc (hp:Pc L out):lvJ L out (out.toNat+1)=[]:=by
 unfold lvJ
 have:(dG L out).filter (fun i=>decide (out.toNat+1<=i))=[]:=by
  rw[List.filter_eq_nil_iff]
  intro i hi
  have:=aHn hp.ok hp.o1 ((fT hp.ok hp.o1).1 hi).2
  simp;omega
 rw[this];rfl
theorem aQd (hp:Pc L out){j:Nat}(hj:j < L.length)(h:Lv L out j):lvJ L out j=lvJ L out (j+1)++[(j:Int)]:=by
 unfold lvJ
 rw[aAt (kR L out) ((fT hp.ok hp.o1).2 ⟨hj,h⟩),List.reverse_cons,List.map_append]
 rfl
theorem aUe (hp:Pc L out){j:Nat}(h:¬Lv L out j):lvJ L out j=lvJ L out (j+1):=by
 unfold lvJ
 congr 2
 apply List.filter_congr
 intro i hi
 have:i≠j:=fun e=>h (e ▸ ((fT hp.ok hp.o1).1 hi).2)
 rw[Bool.eq_iff_iff,decide_eq_true_iff,decide_eq_true_iff]
 omega
theorem aL0 (L:List In)(out:Int):(lvJ L out 0).reverse=lvZ L out:=by
 unfold lvJ lvZ
 have:(dG L out).filter (fun i=>decide (0<=i))=dG L out:=by
  rw[List.filter_eq_self];intro i _;simp
 rw[this,<-List.map_reverse,List.reverse_reverse]
theorem aQb (L:List In)(out:Int)(j:Nat):(lvJ L out j).length<=L.length:=by
 unfold lvJ
 rw[List.length_map,List.length_reverse]
 exact Nat.le_trans (List.length_filter_le _ _) (aBs L out)
theorem aBt (L:List In)(out:Int):(lvZ L out).length=(dG L out).length:=by simp[lvZ]
theorem aUg (hk:k < (dG L out).length):(lvZ L out).getD k 0=(((dG L out).getD k 0:Nat):Int):=by
 unfold lvZ
 rw[List.getD_eq_getElem?_getD,List.getElem?_map,List.getD_eq_getElem?_getD,List.getElem?_eq_getElem hk]
 rfl
def prK (L:List In)(out:Int)(k:Nat):List In:=(qU L out).take k
theorem Pc.th {L:List In}{out:Int}(h:Pc L out){k:Nat}(hk:k < (dG L out).length):bW (L.getD ((dG L out).getD k 0) i0) (toK (dG L out) L.length (k+1))=(qU L out).getD k i0:=by
 rw[aB9 hk]
 apply aR2
 intro r hr
 obtain⟨r0,r1,r2,r3,r4⟩:=h.reg hk hr
 rw[r2]
 unfold dB
 have hl:=((fT h.ok h.o1).1 r1).1
 rw[nP,if_neg (by omega),aCu (kR L out) (fun j hj=>((fT h.ok h.o1).1 hj).1) (k+1) (by omega),if_pos ⟨r1,by omega⟩]
theorem aM2 (hk:k < (dG L out).length):prK L out (k+1)=prK L out k++[(qU L out).getD k i0]:=Cde.aH i0 (by rw[iK];exact hk)
theorem aQ6 (hk:k<=(dG L out).length):(prK L out k).length=k:=by
 unfold prK;rw[List.length_take,iK];omega
theorem aM1 (L:List In)(out:Int):prK L out (dG L out).length=qU L out:=List.take_of_length_le (by rw[iK];exact Nat.le_refl _)
def rvK (D:List Int):Nat->List Int
 | 0=>D
 | k+1=>((rvK D k).set k ((rvK D k).getD (D.length-1-k) 0)).set (D.length-1-k) ((rvK D k).getD k 0)
theorem vR (D:List Int):∀ k,(rvK D k).length=D.length
 | 0=>rfl
 | k+1=>by rw[rvK,List.length_set,List.length_set,vR D k]
theorem aHz (D:List Int):∀(k:Nat),2*k<=D.length->∀ p,p < D.length->(rvK D k).getD p 0=if p < k\/D.length<=p+k then D.getD (D.length-1-p) 0 else D.getD p 0
 | 0,_,p,hp=>by rw[if_neg (by omega)];rfl
 | k+1,hk,p,hp=>by
  have ih:=aHz D k (by omega)
  rw[rvK,wY,wY,List.length_set,vR]
  by_cases h1:p=D.length-1-k
  ·rw[if_pos ⟨h1,by omega⟩,ih k (by omega),if_neg (by omega),if_pos (by omega)]
   congr 1;omega
  ·rw[if_neg (fun hc=>h1 hc.1)]
   by_cases h2:p=k
   ·rw[if_pos ⟨h2,by omega⟩,ih _ (by omega),if_neg (by omega),if_pos (by omega)]
    congr 1;omega
   ·rw[if_neg (fun hc=>h2 hc.1),ih p hp]
    by_cases h3:p < k\/D.length<=p+k
    ·rw[if_pos h3,if_pos (by omega)]
    ·rw[if_neg h3,if_neg (by omega)]
theorem aRl (D:List Int)(h1:2*k<=D.length)(h2:D.length<=2*k+1):rvK D k=D.reverse:=by
 apply List.ext_getElem (by rw[vR,List.length_reverse])
 intro p q1 q2
 have hp:p < D.length:=by rw[vR] at q1;exact q1
 have e:=aHz D k h1 p hp
 rw[List.getD_eq_getElem?_getD,List.getElem?_eq_getElem q1,Option.getD_some] at e
 have e2:D.getD (D.length-1-p) 0=D[D.length-1-p]:=by rw[List.getD_eq_getElem?_getD,List.getElem?_eq_getElem (by omega),Option.getD_some]
 rw[e,List.getElem_reverse,<-e2]
 split
 ·rfl
 ·congr 1;omega
end Go.Proofs.Prn
