import Derived.Test.YtjmfboegnmogdaaGreatXH
import Derived.Test.YtjmfboegnmogdaaGreatX38
import Derived.Test.YtjmfboegnmogdaaGreatX39
import Derived.Test.YtjmfboegnmogdaaGreatX26
set_option maxRecDepth 100000
set_option maxHeartbeats 32000000
set_option linter.unusedVariables false
namespace Go.Proofs.Prn
open Go.RowKit Go.IntWalk Knd
open YtjmfboegnmogdaaGreat (Wd gM Fits inpV)
open Cde (In i0 dL dE bC dN jS dV iU dU tL oD iG iE nJ rM rJ)
open Vfy (nY bB aM w32 eD gU yX kE vK rG rO dK)
open Fld (ar vl rg bZ dA Rv gv dJ)
open Rdc (lI)
variable {i:Nat} {L:List In} {out:Int}
inductive Lv (L:List In) (out:Int):Nat->Prop
 | ans:Lv L out out.toNat
 | arg {i:Nat} {r:Int}:Lv L out i->r ∈ dL (L.getD i i0)->Lv L out r.toNat
def mkA (B:List Bool)(P:List Int):List Bool:=P.foldl (fun B r=>B.set r.toNat true) B
def lvS (L:List In)(B:List Bool)(i:Nat):List Bool:=if B.getD i false=true then mkA B (dL (L.getD i i0)) else B
def lvM (L:List In)(out:Int):List Bool:=((List.range L.length).reverse).foldl (lvS L) ((List.replicate L.length false).set out.toNat true)
theorem aHq (P:List Int):∀ B:List Bool,(mkA B P).length=B.length:=by
 induction P with
 | nil=>intro B;rfl
 | cons r P ih=>intro B;show (mkA (B.set r.toNat true) P).length=_;rw[ih,List.length_set]
theorem wY {B:List Bool}{r:Nat}:(B.set r true).getD i false=if i=r/\r < B.length then true else B.getD i false:=by
 rw[List.getD_eq_getElem?_getD,List.getElem?_set,List.getD_eq_getElem?_getD]
 by_cases e:r=i
 ·subst e
  by_cases h:r < B.length
  ·simp[h]
  ·simp[h]
 ·rw[if_neg e,if_neg (by omega)]
theorem sN (P:List Int):∀(B:List Bool) (i:Nat),(mkA B P).getD i false=true↔B.getD i false=true\/(i < B.length/\∃ r ∈ P,r.toNat=i):=by
 induction P with
 | nil=>intro B i;simp[mkA]
 | cons r P ih =>
  intro B i
  show (mkA (B.set r.toNat true) P).getD i false=true↔_
  rw[ih,wY,List.length_set]
  constructor
  ·rintro(h|⟨h1,q,h2,h3⟩)
   ·split at h
    ·rename_i e
     exact .inr ⟨by omega,r,by simp,e.1.symm⟩
    ·exact .inl h
   ·exact .inr ⟨h1,q,by simp[h2],h3⟩
  ·rintro(h|⟨h1,q,h2,h3⟩)
   ·left
    split
    ·rfl
    ·exact h
   ·rcases List.mem_cons.1 h2 with rfl|h2
    ·left
     rw[if_pos ⟨h3.symm,by omega⟩]
    ·exact .inr ⟨h1,q,h2,h3⟩
structure Mk (L:List In)(out:Int)(k:Nat)(B:List Bool):Prop where
 len:B.length=L.length
 lv:∀ i,B.getD i false=true->Lv L out i
 ans:B.getD out.toNat false=true
 cl:∀ i,k<=i->i < L.length->B.getD i false=true->∀ r ∈ dL (L.getD i i0),B.getD r.toNat false=true
theorem Mk.step {k:Nat}{B:List Bool}(h:Mk L out (k+1) B)(hk:k < L.length)(ho:bC (L.getD k i0) k=true):Mk L out k (lvS L B k):=by
 unfold lvS
 by_cases hb:B.getD k false=true
 ·rw[if_pos hb]
  have hr:∀ r ∈ dL (L.getD k i0),r.toNat < k:=fun r hr=>(Vfy.oF ho hr).2
  refine⟨by rw[aHq];exact h.len,fun i hi=>?_,(sN _ _ _).2 (.inl h.ans),fun i h1 h2 h3 r h4=>?_⟩
  ·rcases(sN _ _ _).1 hi with h1|⟨-,r,h1,rfl⟩
   ·exact h.lv i h1
   ·exact .arg (h.lv k hb) h1
  ·by_cases e:i=k
   ·subst e
    exact(sN _ _ _).2 (.inr ⟨by have:=hr r h4;have:=h.len;omega,r,h4,rfl⟩)
   ·have hi:B.getD i false=true:=by
     rcases(sN _ _ _).1 h3 with h5|⟨-,q,h5,h6⟩
     ·exact h5
     ·have:=hr q h5
      omega
    exact(sN _ _ _).2 (.inl (h.cl i (by omega) h2 hi r h4))
 ·rw[if_neg hb]
  refine⟨h.len,h.lv,h.ans,fun i h1 h2 h3 r h4=>?_⟩
  by_cases e:i=k
  ·subst e;exact absurd h3 hb
  ·exact h.cl i (by omega) h2 h3 r h4
theorem Mk.start (ho:out.toNat < L.length):Mk L out L.length ((List.replicate L.length false).set out.toNat true):=by
 refine⟨by simp,fun i hi=>?_,?_,fun i h1 h2=>absurd h2 (by omega)⟩
 ·rw[wY] at hi
  split at hi
  ·rename_i e
   rw[e.1];exact .ans
  ·rw[List.getD_eq_getElem?_getD,List.getElem?_replicate] at hi
   split at hi <;> simp at hi
 ·rw[wY,if_pos ⟨rfl,by simpa using ho⟩]
theorem Mk.down {L:List In}{out:Int}(hok:dN L L.length=true):∀(k:Nat) (B:List Bool),k<=L.length->Mk L out k B->Mk L out 0 (((List.range k).reverse).foldl (lvS L) B)
 | 0,B,_,h=>by simpa using h
 | k+1,B,hk,h=>by
  rw[List.range_succ,List.reverse_append]
  show Mk L out 0 (((List.range k).reverse).foldl (lvS L) (lvS L B k))
  exact Mk.down hok k _ (by omega) (h.step (by omega) (Cde.cZ hok (by omega)))
theorem aL8 (hok:dN L L.length=true)(ho:out.toNat < L.length):Mk L out 0 (lvM L out):=Mk.down hok L.length _ (Nat.le_refl _) (Mk.start ho)
theorem Mk.iff {B:List Bool}(h:Mk L out 0 B)(hok:dN L L.length=true)(ho:out.toNat < L.length)(i:Nat):B.getD i false=true↔Lv L out i:=by
 refine⟨h.lv i,fun hl=>?_⟩
 have:B.getD i false=true/\i < L.length:=by
  induction hl with
  | ans=>exact⟨h.ans,ho⟩
  | @arg j r h1 h2 ih=>exact⟨h.cl j (Nat.zero_le _) ih.2 ih.1 r h2,by have:=(Vfy.oF (Cde.cZ hok ih.2) h2).2;omega⟩
 exact this.1
theorem aHo (hok:dN L L.length=true)(ho:out.toNat < L.length)(h:Lv L out i):i<=out.toNat:=by
 have:i<=out.toNat/\i < L.length:=by
  induction h with
  | ans=>exact⟨Nat.le_refl _,ho⟩
  | @arg j r h1 h2 ih =>
   have:=(Vfy.oF (Cde.cZ hok ih.2) h2).2
   exact⟨by omega,by omega⟩
 exact this.1
def dD (L:List In)(out:Int):List Nat:=(List.range L.length).filter fun i=>(lvM L out).getD i false
def toL (L:List In)(out:Int):List Int:=(List.range L.length).map fun i=>if (lvM L out).getD i false=true then(((dD L out).idxOf i:Nat):Int) else 0
def qW (L:List In)(out:Int):List In:=(dD L out).map fun i=>bZ (L.getD i i0) (toL L out)
def prO (L:List In)(out:Int):Int:=(toL L out).getD out.toNat 0
theorem fZ (hok:dN L L.length=true)(ho:out.toNat < L.length):i ∈ dD L out↔i < L.length/\Lv L out i:=by
 unfold dD
 rw[List.mem_filter,List.mem_range]
 exact and_congr_right fun _=>(aL8 hok ho).iff hok ho i
theorem aOl (hi:i ∈ dD L out):(toL L out).getD i 0=(((dD L out).idxOf i:Nat):Int)/\(dD L out).idxOf i < (dD L out).length/\(dD L out).getD ((dD L out).idxOf i) 0=i:=by
 have h:=hi
 unfold dD at h
 rw[List.mem_filter,List.mem_range] at h
 have hlt:=List.idxOf_lt_length_of_mem hi
 refine⟨?_,hlt,?_⟩
 ·unfold toL
  rw[List.getD_eq_getElem?_getD,List.getElem?_map,List.getElem?_range h.1]
  show (if (lvM L out).getD i false=true then _ else _)=_
  rw[if_pos h.2]
 ·rw[List.getD_eq_getElem?_getD,List.getElem?_eq_getElem hlt]
  simp
end Go.Proofs.Prn
namespace Go.Proofs.Prn
open Go.RowKit Go.IntWalk Knd
open YtjmfboegnmogdaaGreat (Wd gM Fits inpV)
open Cde (In i0 dL dE bC dN jS dV iU dU tL oD iG iE nJ rM rJ)
open Vfy (nY bB aM w32 eD gU yX kE vK rG rO dK)
open Fld (ar vl rg bZ dA Rv gv dJ vY iT nW zQ tH av3 jU)
open Rdc (lI)
variable {L:List In} {out:Int} {j:Nat}
theorem aOf (n:In)(T:List Int):dL (bZ n T)=(dL n).map (dA T):=by
 rcases Cde.jE n.op with e|e|e|e|e
 ·have e1:dL n=[]:=by unfold dL dE;rw[e];rfl
  have e2:dL (bZ n T)=[]:=by unfold dL dE;rw[show Spn.ar (bZ n T).op=-1 from e];rfl
  rw[e1,e2];rfl
 ·have e1:dL n=[]:=by unfold dL dE;rw[e];rfl
  have e2:dL (bZ n T)=[]:=by unfold dL dE;rw[show Spn.ar (bZ n T).op=0 from e];rfl
  rw[e1,e2];rfl
 ·have e':ar n.op=1:=e
  rw[vY e',vY (n:=bZ n T) e']
  have ea:(bZ n T).a=dA T n.a:=by show (if 0 < ar n.op then dA T n.a else n.a)=_;rw[if_pos (by omega)]
  rw[ea];rfl
 ·have e':ar n.op=2:=e
  rw[iT e',iT (n:=bZ n T) e']
  have ea:(bZ n T).a=dA T n.a:=by show (if 0 < ar n.op then dA T n.a else n.a)=_;rw[if_pos (by omega)]
  have eb:(bZ n T).b=dA T n.b:=by show (if 1 < ar n.op then dA T n.b else n.b)=_;rw[if_pos (by omega)]
  rw[ea,eb];rfl
 ·have e':ar n.op=3:=e
  rw[nW e',nW (n:=bZ n T) e']
  have ea:(bZ n T).a=dA T n.a:=by show (if 0 < ar n.op then dA T n.a else n.a)=_;rw[if_pos (by omega)]
  have eb:(bZ n T).b=dA T n.b:=by show (if 1 < ar n.op then dA T n.b else n.b)=_;rw[if_pos (by omega)]
  have ec:(bZ n T).c=dA T n.c:=by show (if 2 < ar n.op then dA T n.c else n.c)=_;rw[if_pos (by omega)]
  rw[ea,eb,ec];rfl
theorem aV7 {n:In}{T:List Int}{k m:Nat}(h:∀ r ∈ dL n,dJ (dA T r) m)(ho:bC n k=true):bC (bZ n T) m=true:=by
 have hc:=Cde.qU ho
 have ha:=Cde.aAq ho
 simp only[bC,rM,Bool.and_eq_true,jU] at ho
 obtain⟨⟨-,⟨⟨a1,a2⟩,b1,b2⟩,c1,c2⟩,-⟩:=ho
 simp only[decide_eq_true_eq,decide_eq_false_iff_not] at a1 a2 b1 b2 c1 c2
 have hc':nJ (bZ n T)=true:=hc
 have ma:0 < ar n.op->n.a ∈ dL n:=fun u=>by
  rcases Cde.jE n.op with e|e|e|e|e
  ·have:ar n.op=-1:=e;omega
  ·have:ar n.op=0:=e;omega
  ·rw[vY e];simp
  ·rw[iT e];simp
  ·rw[nW e];simp
 have mb:1 < ar n.op->n.b ∈ dL n:=fun u=>by
  rcases Cde.jE n.op with e|e|e|e|e
  ·have:ar n.op=-1:=e;omega
  ·have:ar n.op=0:=e;omega
  ·have:ar n.op=1:=e;omega
  ·rw[iT e];simp
  ·rw[nW e];simp
 have mc:2 < ar n.op->n.c ∈ dL n:=fun u=>by
  rcases Cde.jE n.op with e|e|e|e|e
  ·have:ar n.op=-1:=e;omega
  ·have:ar n.op=0:=e;omega
  ·have:ar n.op=1:=e;omega
  ·have:ar n.op=2:=e;omega
  ·rw[nW e];simp
 simp only[bC,rM,Bool.and_eq_true,jU,hc',decide_eq_true_eq,decide_eq_false_iff_not]
 refine⟨⟨ha,⟨⟨fun u=>?_,fun u=>?_⟩,fun u=>?_,fun u=>?_⟩,fun u=>?_,fun u=>?_⟩,trivial⟩
 ·show dJ (if 0 < ar n.op then dA T n.a else n.a) m
  rw[if_pos (show 0 < ar n.op from u)];exact h _ (ma u)
 ·show (if 0 < ar n.op then dA T n.a else n.a)=0
  rw[if_neg (show ¬0 < ar n.op from u)];exact a2 u
 ·show dJ (if 1 < ar n.op then dA T n.b else n.b) m
  rw[if_pos (show 1 < ar n.op from u)];exact h _ (mb u)
 ·show (if 1 < ar n.op then dA T n.b else n.b)=0
  rw[if_neg (show ¬1 < ar n.op from u)];exact b2 u
 ·show dJ (if 2 < ar n.op then dA T n.c else n.c) m
  rw[if_pos (show 2 < ar n.op from u)];exact h _ (mc u)
 ·show (if 2 < ar n.op then dA T n.c else n.c)=0
  rw[if_neg (show ¬2 < ar n.op from u)];exact c2 u
theorem kU (L:List In)(out:Int):(dD L out).Pairwise (· < ·):=List.Pairwise.filter _ List.pairwise_lt_range
theorem aUs {p q:Nat}(hp:p < (dD L out).length)(hq:q < (dD L out).length)(h:(dD L out).getD p 0 < (dD L out).getD q 0):p < q:=by
 rcases Nat.lt_trichotomy p q with e|e|e
 ·exact e
 ·subst e;omega
 ·have:=List.pairwise_iff_getElem.1 (kU L out) q p hq hp e
  rw[List.getD_eq_getElem?_getD,List.getElem?_eq_getElem hp,List.getD_eq_getElem?_getD,List.getElem?_eq_getElem hq] at h
  simp at h
  omega
theorem aCw (L:List In)(out:Int):(toL L out).length=L.length:=by simp[toL]
theorem iN (L:List In)(out:Int):(qW L out).length=(dD L out).length:=by simp[qW]
structure Pc (L:List In)(out:Int):Prop where
 ok:dN L L.length=true
 o0:0<=out
 o1:out.toNat < L.length
theorem Pc.mem (h:Pc L out)(hj:j < (dD L out).length):(dD L out).getD j 0 < L.length/\Lv L out ((dD L out).getD j 0):=by
 have:(dD L out).getD j 0 ∈ dD L out:=by rw[List.getD_eq_getElem?_getD,List.getElem?_eq_getElem hj];exact List.getElem_mem _
 exact(fZ h.ok h.o1).1 this
theorem Pc.reg (h:Pc L out)(hj:j < (dD L out).length){r:Int}(hr:r ∈ dL (L.getD ((dD L out).getD j 0) i0)) :
  0<=r/\r.toNat ∈ dD L out/\dA (toL L out) r=(((dD L out).idxOf r.toNat:Nat):Int)/\(dD L out).idxOf r.toNat < j/\(dD L out).getD ((dD L out).idxOf r.toNat) 0=r.toNat:=by
 obtain⟨h1,h2⟩:=h.mem hj
 obtain⟨r0,r1⟩:=Vfy.oF (Cde.cZ h.ok h1) hr
 have hm:r.toNat ∈ dD L out:=(fZ h.ok h.o1).2 ⟨by omega,.arg h2 hr⟩
 obtain⟨t1,t2,t3⟩:=aOl hm
 refine⟨r0,hm,?_,aUs t2 hj (by rw[t3];exact r1),t3⟩
 unfold dA
 rw[aCw,if_neg (by omega),t1]
theorem aCb (hj:j < (dD L out).length):(qW L out).getD j i0=bZ (L.getD ((dD L out).getD j 0) i0) (toL L out):=by
 unfold qW
 rw[List.getD_eq_getElem?_getD,List.getElem?_map,List.getD_eq_getElem?_getD (l:=dD L out),List.getElem?_eq_getElem hj]
 rfl
theorem Pc.okN (h:Pc L out)(hj:j < (dD L out).length):bC ((qW L out).getD j i0) j=true:=by
 rw[aCb hj]
 refine aV7 (fun r hr=>?_) (Cde.cZ h.ok (h.mem hj).1)
 obtain⟨-,-,e,e2,-⟩:=h.reg hj hr
 rw[e]
 exact⟨by omega,by simpa using e2⟩
theorem Pc.vals (h:Pc L out){f d:Int}{v:Wd}{V:List Int}(hV:Rv f d v L V):Rv f d v (qW L out) ((dD L out).map fun i=>V.getD i 0):=by
 have hget:∀ j,j < (dD L out).length->((dD L out).map fun i=>V.getD i 0).getD j 0=V.getD ((dD L out).getD j 0) 0:=fun j hj=>by
  rw[List.getD_eq_getElem?_getD,List.getElem?_map,List.getD_eq_getElem?_getD (l:=dD L out),List.getElem?_eq_getElem hj]
  rfl
 refine⟨by simp[qW],fun j hj=>?_,fun j hj=>?_⟩
 ·exact h.okN (by rw[iN] at hj;exact hj)
 ·rw[iN] at hj
  obtain⟨h1,h2⟩:=h.mem hj
  have hv:=hV.val _ h1
  rw[aCb hj,hget j hj,<-hv]
  unfold dU
  have e:iE ((dD L out).map fun i=>V.getD i 0) (bZ (L.getD ((dD L out).getD j 0) i0) (toL L out))=iE V (L.getD ((dD L out).getD j 0) i0):=by
   unfold iE
   rw[aOf,List.map_map]
   apply List.map_congr_left
   intro r hr
   obtain⟨-,-,e,e2,e3⟩:=h.reg hj hr
   show ((dD L out).map fun i=>V.getD i 0).getD (dA (toL L out) r).toNat 0=V.getD r.toNat 0
   rw[e,Int.toNat_natCast,hget _ (by omega),e3]
  rw[e]
  rfl
end Go.Proofs.Prn
namespace Go.Proofs.Prn
open Go.RowKit Go.IntWalk Knd
open YtjmfboegnmogdaaGreat (Wd gM Fits inpV)
open Cde (In i0 dL dE bC dN jS dV iU dU tL oD iG iE nJ rM rJ)
open Vfy (nY bB aM w32 eD gU yX kE vK rG rO dK)
open Fld (ar vl rg bZ dA Rv gv dJ vY iT nW zQ tH av3 jU)
open Rdc (lI)
variable {d f out:Int} {L:List In}
theorem aH4 {S:dK}(h:gU f d L=(0,S))(k:Nat):(gU f d (L.take k)).1=0:=by
 by_cases hc:(gU f d (L.take k)).1=0
 ·exact hc
 ·have e:=Vfy.aCj (L:=L) (k:=k) rfl hc
  rw[h] at e
  rw[<-e] at hc
  exact absurd rfl hc
theorem aRx {S:dK}(hok:dN L L.length=true)(h:gU f d L=(0,S)){i:Nat}(hi:i < L.length):kE f d S (L.getD i i0)=(S.getD i (0,0),0):=by
 have e1:=aH4 h i
 have e2:=aH4 h (i+1)
 have l1:=Vfy.sV f d L i (by omega) e1
 have q1:gU f d (L.take i)=(0,(gU f d (L.take i)).2):=Prod.ext e1 rfl
 generalize (gU f d (L.take i)).2=A at q1 l1
 rw[Cde.aH i0 hi,Vfy.iO,q1,yX,if_pos rfl] at e2
 have hn:(kE f d A (L.getD i i0)).2=0:=by
  by_cases hc:(kE f d A (L.getD i i0)).2=0
  ·exact hc
  ·rw[if_neg hc] at e2;exact e2
 have q2:=Rdc.aCl (n:=L.getD i i0) (s:=(kE f d A (L.getD i i0)).1) q1 (Prod.ext rfl hn)
 rw[<-Cde.aH i0 hi] at q2
 obtain⟨Z,hZ⟩:=Rdc.aN1 (L.drop (i+1)) (L.take (i+1)) _ S q2 (by rw[List.take_append_drop];exact h)
 have e3:kE f d S (L.getD i i0)=kE f d A (L.getD i i0):=by
  rw[hZ,List.append_assoc];exact Vfy.aCk (by rw[l1];exact Cde.cZ hok hi)
 have e4:S.getD i (0,0)=(kE f d A (L.getD i i0)).1:=by
  rw[hZ]
  simp[List.getD_eq_getElem?_getD,<-l1]
 rw[e3,e4]
 exact Prod.ext rfl hn
theorem aEp {f d:Int}{L:List In}{S:dK}(hok:∀ i,i < L.length->bC (L.getD i i0) i=true)(hl:S.length=L.length)(h:∀ i,i < L.length->kE f d S (L.getD i i0)=(S.getD i (0,0),0)):∀ k,k<=L.length->gU f d (L.take k)=(0,S.take k)
 | 0,_=>by simp[gU]
 | k+1,hk=>by
  have ih:=aEp hok hl h k (by omega)
  rw[Cde.aH i0 (by omega),Cde.aH (0,0) (by omega)]
  refine Rdc.aCl ih ?_
  rw[<-h k (by omega)]
  have e:=Vfy.aCk (f:=f) (d:=d) (S:=S.take k) (Z:=S.drop k) (n:=L.getD k i0) (by rw[List.length_take,Nat.min_eq_left (by omega)];exact hok k (by omega))
  rw[List.take_append_drop] at e
  exact e.symm
theorem aVz {S:dK}(hok:∀ i,i < L.length->bC (L.getD i i0) i=true)(hl:S.length=L.length)(h:∀ i,i < L.length->kE f d S (L.getD i i0)=(S.getD i (0,0),0)):gU f d L=(0,S):=by
 have:=aEp hok hl h L.length (Nat.le_refl _)
 rwa[List.take_length,<-hl,List.take_length] at this
theorem Pc.okA (h:Pc L out):∀ j,j < (qW L out).length->bC ((qW L out).getD j i0) j=true:=fun j hj=>h.okN (by rw[iN] at hj;exact hj)
theorem Pc.sgs (h:Pc L out){S:dK}(hS:gU f d L=(0,S)):gU f d (qW L out)=(0,(dD L out).map fun i=>S.getD i (0,0)):=by
 have hget:∀ j,j < (dD L out).length->((dD L out).map fun i=>S.getD i (0,0)).getD j (0,0)=S.getD ((dD L out).getD j 0) (0,0):=fun j hj=>by
  rw[List.getD_eq_getElem?_getD,List.getElem?_map,List.getD_eq_getElem?_getD (l:=dD L out),List.getElem?_eq_getElem hj]
  rfl
 refine aVz h.okA (by simp[qW]) fun j hj=>?_
 rw[iN] at hj
 obtain⟨h1,h2⟩:=h.mem hj
 have hv:=aRx h.ok hS h1
 rw[aCb hj,hget j hj,<-hv]
 have e:vK ((dD L out).map fun i=>S.getD i (0,0)) (bZ (L.getD ((dD L out).getD j 0) i0) (toL L out))=vK S (L.getD ((dD L out).getD j 0) i0):=by
  unfold vK
  rw[aOf,List.map_map]
  apply List.map_congr_left
  intro r hr
  obtain⟨-,-,e,e2,e3⟩:=h.reg hj hr
  show ((dD L out).map fun i=>S.getD i (0,0)).getD (dA (toL L out) r).toNat (0,0)=S.getD r.toNat (0,0)
  rw[e,Int.toNat_natCast,hget _ (by omega),e3]
 unfold kE
 rw[e]
 rfl
theorem aC7 (n:In)(L:List In):dV (n::L)=iU n.op+dV L:=by
 have e:n::L=[n]++L:=rfl
 rw[e,lI]
 have:dV [n]=iU n.op:=by simp[dV]
 omega
theorem zX (F G:Nat->In)(hF:∀ i,(F i).op=(G i).op)(p:Nat->Bool):∀ I:List Nat,dV ((I.filter p).map F)<=dV (I.map G)
 | []=>by simp
 | i::I=>by
  have ih:=zX F G hF p I
  have:=(Cde.aK0 (G i).op).1
  rw[List.map_cons,aC7]
  by_cases hp:p i=true
  ·rw[List.filter_cons_of_pos hp,List.map_cons,aC7,hF];omega
  ·rw[List.filter_cons_of_neg hp];omega
theorem aJo (L:List In):(List.range L.length).map (fun i=>L.getD i i0)=L:=by
 apply List.ext_getElem (by simp)
 intro i h1 h2
 simp[List.getD_eq_getElem?_getD,List.getElem?_eq_getElem h2]
theorem aEb (L:List In)(out:Int):dV (qW L out)<=dV L:=by
 have:=zX (fun i=>bZ (L.getD i i0) (toL L out)) (fun i=>L.getD i i0) (fun i=>rfl) (fun i=>(lvM L out).getD i false) (List.range L.length)
 rw[aJo] at this
 exact this
theorem aBv (L:List In)(out:Int):(dD L out).length<=L.length:=by
 have:=List.length_filter_le (fun i=>(lvM L out).getD i false) (List.range L.length)
 rwa[List.length_range] at this
theorem Pc.ans {L:List In}{out:Int}(h:Pc L out):out.toNat ∈ dD L out:=(fZ h.ok h.o1).2 ⟨h.o1,.ans⟩
theorem Pc.last (h:Pc L out):prO L out=((dD L out).length:Int)-1/\1<=(dD L out).length/\(dD L out).getD ((dD L out).length-1) 0=out.toNat:=by
 obtain⟨t1,t2,t3⟩:=aOl h.ans
 have hl:(dD L out).idxOf out.toNat=(dD L out).length-1:=by
  by_cases e:(dD L out).idxOf out.toNat=(dD L out).length-1
  ·exact e
  ·have hq:(dD L out).length-1 < (dD L out).length:=by omega
   have hp:=List.pairwise_iff_getElem.1 (kU L out) _ _ t2 hq (by omega)
   have hm:=(fZ h.ok h.o1).1 (List.getElem_mem hq)
   have:=aHo h.ok h.o1 hm.2
   rw[List.getD_eq_getElem?_getD,List.getElem?_eq_getElem t2,Option.getD_some] at t3
   omega
 rw[hl] at t1 t3
 refine⟨?_,by omega,t3⟩
 unfold prO
 rw[t1]
 omega
theorem aD8 (h:jS f d L out=true):Pc L out:=by
 obtain⟨-,-,-,h0,h1,ho⟩:=Cde.aS h
 exact⟨ho,h0,by omega⟩
theorem aVd (h:∀ j,j < L.length->bC (L.getD j i0) j=true):dN L L.length=true:=by
 unfold dN
 rw[List.all_eq_true]
 intro i hi
 exact h i (List.mem_range.1 hi)
theorem aS8 (h:jS f d L out=true):jS f d (qW L out) (prO L out)=true:=by
 obtain⟨hm,h1,h2,h3,h4,ho⟩:=Cde.aS h
 have hp:=aD8 h
 obtain⟨l1,l2,-⟩:=hp.last
 have:=aBv L out
 have e:=iN L out
 simp only[jS,Bool.and_eq_true,decide_eq_true_eq,Spn.aK]
 refine⟨⟨⟨hm,?_⟩,?_⟩,aVd hp.okA⟩
 ·omega
 ·omega
theorem aNd (h:bB f d L out=0):bB f d (qW L out) (prO L out)=0:=by
 obtain⟨m,ha,⟨S,hS,hSl,hs⟩,hc,-⟩:=aM h
 have hp:=aD8 m
 rw[Vfy.aC1,Vfy.vQ]
 refine⟨⟨aS8 m,?_⟩,by rw[hp.sgs hS],by have:=aEb L out;omega⟩
 rw[List.any_eq_false] at ha ⊢
 intro n hn
 unfold qW at hn
 obtain⟨i,hi,rfl⟩:=List.mem_map.1 hn
 have hi2:=((fZ hp.ok hp.o1).1 hi).1
 exact ha (L.getD i i0) (Cde.oL i0 hi2)
theorem aNc (h:bB f d L out=0){v:Wd}(hF:Fits f d v) :
  ∃ V U,iG f d v L out=(0,V)/\iG f d v (qW L out) (prO L out)=(0,U)/\V.length=L.length/\U.length=(qW L out).length/\0<=prO L out/\(prO L out).toNat < (qW L out).length/\U.getD (prO L out).toNat 0=V.getD out.toNat 0:=by
 obtain⟨m,-⟩:=aM h
 have hp:=aD8 m
 obtain⟨l1,l2,l3⟩:=hp.last
 obtain⟨V,hV,hVl,hO⟩:=Rdc.aD0 h hF
 have hU:=hp.vals hO.rv
 refine⟨V,_,hV,by rw[iG,if_pos (aS8 m),if_pos hF];exact Rdc.aOp hU,hVl,hU.len,by omega,by rw[iN];omega,?_⟩
 have e:(prO L out).toNat=(dD L out).length-1:=by omega
 have hq:(dD L out).length-1 < (dD L out).length:=by omega
 rw[e,List.getD_eq_getElem?_getD,List.getElem?_map,List.getElem?_eq_getElem hq]
 rw[List.getD_eq_getElem?_getD,List.getElem?_eq_getElem hq,Option.getD_some] at l3
 show V.getD ((dD L out)[(dD L out).length-1]) 0=_
 rw[l3]
end Go.Proofs.Prn
namespace Go.Proofs.Prn
open Go.RowKit Go.IntWalk Knd
open YtjmfboegnmogdaaGreat (Wd gM Fits inpV)
open Cde (In i0 dL dE bC dN jS dV iU dU tL oD iG iE nJ rM rJ usU ctR agA)
open Vfy (nY bB aM w32 eD gU yX kE vK rG rO dK)
open Fld (ar vl rg bZ dA Rv gv dJ vY iT nW zQ tH av3 jU)
theorem aFu {l:List Nat}(hs:l.Pairwise (· < ·)){j:Nat}(hj:j < l.length):l.idxOf (l.getD j 0)=j:=by
 have e:l.getD j 0=l[j]:=by rw[List.getD_eq_getElem?_getD,List.getElem?_eq_getElem hj];rfl
 have hm:l[j] ∈ l:=List.getElem_mem hj
 have h1:=List.idxOf_lt_length_of_mem hm
 have h2:l[l.idxOf l[j]]=l[j]:=List.getElem_idxOf h1
 rw[e]
 rcases Nat.lt_trichotomy (l.idxOf l[j]) j with h|h|h
 ·have:=List.pairwise_iff_getElem.1 hs _ _ h1 hj h;omega
 ·exact h
 ·have:=List.pairwise_iff_getElem.1 hs _ _ hj h1 h;omega
theorem aSd {n:In}{T U:List Int}(h:∀ r ∈ dL n,dA T r=dA U r):bZ n T=bZ n U:=by
 have ma:0 < ar n.op->n.a ∈ dL n:=fun u=>by
  rcases Cde.jE n.op with e|e|e|e|e
  ·have:ar n.op=-1:=e;omega
  ·have:ar n.op=0:=e;omega
  ·rw[vY e];simp
  ·rw[iT e];simp
  ·rw[nW e];simp
 have mb:1 < ar n.op->n.b ∈ dL n:=fun u=>by
  rcases Cde.jE n.op with e|e|e|e|e
  ·have:ar n.op=-1:=e;omega
  ·have:ar n.op=0:=e;omega
  ·have:ar n.op=1:=e;omega
  ·rw[iT e];simp
  ·rw[nW e];simp
 have mc:2 < ar n.op->n.c ∈ dL n:=fun u=>by
  rcases Cde.jE n.op with e|e|e|e|e
  ·have:ar n.op=-1:=e;omega
  ·have:ar n.op=0:=e;omega
  ·have:ar n.op=1:=e;omega
  ·have:ar n.op=2:=e;omega
  ·rw[nW e];simp
 have ea:(if 0 < ar n.op then dA T n.a else n.a)=if 0 < ar n.op then dA U n.a else n.a:=by
  split
  ·exact h _ (ma ‹_›)
  ·rfl
 have eb:(if 1 < ar n.op then dA T n.b else n.b)=if 1 < ar n.op then dA U n.b else n.b:=by
  split
  ·exact h _ (mb ‹_›)
  ·rfl
 have ec:(if 2 < ar n.op then dA T n.c else n.c)=if 2 < ar n.op then dA U n.c else n.c:=by
  split
  ·exact h _ (mc ‹_›)
  ·rfl
 unfold bZ
 rw[ea,eb,ec]
end Go.Proofs.Prn
namespace Go.Proofs.Prn
open Go.RowKit Go.IntWalk Knd
open Cde (In i0 dL bC dN jS)
theorem wZ {A:List Int}{r i:Nat}{x:Int}:(A.set r x).getD i 0=if i=r/\r < A.length then x else A.getD i 0:=by
 rw[List.getD_eq_getElem?_getD,List.getElem?_set,List.getD_eq_getElem?_getD]
 by_cases e:r=i
 ·subst e
  by_cases h:r < A.length
  ·simp[h]
  ·simp[h]
 ·rw[if_neg e,if_neg (by omega)]
theorem aLl {n i:Nat}:(List.replicate n (0:Int)).getD i 0=0:=by
 rw[List.getD_eq_getElem?_getD,List.getElem?_replicate]
 split <;> rfl
def toK (l:List Nat)(n k:Nat):List Int:=(List.range k).foldl (fun T j=>T.set (l.getD j 0) (j:Int)) (List.replicate n 0)
theorem aOk (l:List Nat)(n:Nat):toK l n 0=List.replicate n 0:=rfl
theorem yN (l:List Nat)(n k:Nat):toK l n (k+1)=(toK l n k).set (l.getD k 0) (k:Int):=by
 unfold toK
 rw[List.range_succ,List.foldl_append]
 rfl
theorem nT (l:List Nat)(n:Nat):∀ k,(toK l n k).length=n
 | 0=>by simp[toK]
 | k+1=>by rw[yN,List.length_set,nT l n k]
theorem aCv {l:List Nat}{n:Nat}(hs:l.Pairwise (· < ·))(hl:∀ i ∈ l,i < n){i:Nat}:∀ k,k<=l.length->(toK l n k).getD i 0=if i ∈ l/\l.idxOf i < k then((l.idxOf i:Nat):Int) else 0
 | 0,_=>by rw[aOk,aLl,if_neg (by omega)]
 | k+1,hk=>by
  have hg:l.getD k 0 ∈ l:=Cde.oL 0 (by omega)
  have hi:=aFu hs (show k < l.length by omega)
  rw[yN,wZ,aCv hs hl k (by omega),nT]
  by_cases e:i=l.getD k 0
  ·rw[if_pos ⟨e,hl _ hg⟩,e,hi,if_pos ⟨hg,by omega⟩]
  ·rw[if_neg fun hc=>e hc.1]
   by_cases hm:i ∈ l
   ·have hne:l.idxOf i≠k:=fun hc=>by
     have h1:=List.idxOf_lt_length_of_mem hm
     have h2:l[l.idxOf i]=i:=List.getElem_idxOf h1
     have h3:l.getD (l.idxOf i) 0=i:=by rw[List.getD_eq_getElem?_getD,List.getElem?_eq_getElem h1,Option.getD_some];exact h2
     rw[hc] at h3
     exact e h3.symm
    by_cases hlt:l.idxOf i < k
    ·rw[if_pos ⟨hm,hlt⟩,if_pos ⟨hm,by omega⟩]
    ·rw[if_neg fun hc=>hlt hc.2,if_neg fun hc=>by omega]
   ·rw[if_neg fun hc=>hm hc.1,if_neg fun hc=>hm hc.1]
theorem aOj {L:List In}{out:Int}(hp:Pc L out):toK (dD L out) L.length (dD L out).length=toL L out:=by
 apply List.ext_getElem (by rw[nT,aCw])
 intro i h1 h2
 have hi:i < L.length:=by rw[nT] at h1;exact h1
 have e:=aCv (l:=dD L out) (n:=L.length) (i:=i) (kU L out) (fun j hj=>((fZ hp.ok hp.o1).1 hj).1) (dD L out).length (Nat.le_refl _)
 rw[List.getD_eq_getElem?_getD,List.getElem?_eq_getElem h1,Option.getD_some] at e
 have e2:(toL L out)[i]=if (lvM L out).getD i false=true then(((dD L out).idxOf i:Nat):Int) else 0:=by simp[toL]
 refine Eq.trans e (Eq.trans ?_ e2.symm)
 have hb:=((aL8 hp.ok hp.o1).iff hp.ok hp.o1 i)
 by_cases hm:i ∈ dD L out
 ·rw[if_pos ⟨hm,List.idxOf_lt_length_of_mem hm⟩,if_pos (hb.2 ((fZ hp.ok hp.o1).1 hm).2)]
 ·rw[if_neg fun hc=>hm hc.1,if_neg fun hc=>hm ((fZ hp.ok hp.o1).2 ⟨hi,hb.1 hc⟩)]
end Go.Proofs.Prn
namespace Go.Proofs.Prn
open Go.RowKit Go.IntWalk Knd
open Cde (In i0 dL bC dN jS)
open Fld (bZ dA)
variable {L:List In} {out:Int} {k:Nat}
theorem Mk.one {B:List Bool}(h:Mk L out k B)(hp:Pc L out){i:Nat}(hi:k<=i+1):B.getD i false=true↔Lv L out i:=by
 refine⟨h.lv i,fun hl=>?_⟩
 have:k<=i+1->B.getD i false=true:=by
  induction hl with
  | ans=>intro _;exact h.ans
  | @arg j r h1 h2 ih =>
   intro hk
   have hj:j < L.length:=by have:=aHo hp.ok hp.o1 h1;have:=hp.o1;omega
   have:=(Vfy.oF (Cde.cZ hp.ok hj) h2).2
   exact h.cl j (by omega) hj (ih (by omega) (by omega)) r h2
 exact this hi
theorem Mk.top (hp:Pc L out):Mk L out (out.toNat+1) ((List.replicate L.length false).set out.toNat true):=by
 have h:=Mk.start (L:=L) (out:=out) hp.o1
 refine⟨h.len,h.lv,h.ans,fun i h1 h2 h3=>?_⟩
 have:=aHo hp.ok hp.o1 (h.lv i h3)
 omega
theorem Mk.yes {B:List Bool}(h:Mk L out (k+1) B)(hp:Pc L out)(hk:k < L.length)(hb:B.getD k false=true):Mk L out k (mkA B (dL (L.getD k i0))):=by
 have e:=h.step hk (Cde.cZ hp.ok hk)
 rwa[lvS,if_pos hb] at e
theorem Mk.no {B:List Bool}(h:Mk L out (k+1) B)(hp:Pc L out)(hk:k < L.length)(hb:B.getD k false=false):Mk L out k B:=by
 have e:=h.step hk (Cde.cZ hp.ok hk)
 rwa[lvS,if_neg (by rw[hb];decide)] at e
theorem aMh (B:List Bool)(P:List Int)(r:Int):mkA B (P++[r])=(mkA B P).set r.toNat true:=by
 unfold mkA;rw[List.foldl_append];rfl
def lvJ (L:List In)(out:Int)(j:Nat):List Int:=(((dD L out).filter fun i=>decide (j<=i)).reverse).map fun i:Nat=>(i:Int)
def lvZ (L:List In)(out:Int):List Int:=(dD L out).map fun i:Nat=>(i:Int)
theorem aAx:∀ {l:List Nat} {j:Nat},l.Pairwise (· < ·)->j ∈ l->l.filter (fun i=>decide (j<=i))=j::l.filter (fun i=>decide (j+1<=i))
 | [],j,_,h=>by simp at h
 | x::l,j,hs,h=>by
  rw[List.pairwise_cons] at hs
  rcases List.mem_cons.1 h with rfl|h
  ·rw[List.filter_cons_of_pos (by simp),List.filter_cons_of_neg (by simp)]
   congr 1
   apply List.filter_congr
   intro y hy
   have:=hs.1 y hy
   rw[Bool.eq_iff_iff,decide_eq_true_iff,decide_eq_true_iff]
   omega
  ·have:=hs.1 j h
   rw[List.filter_cons_of_neg (by simp;omega),List.filter_cons_of_neg (by simp;omega)]
   exact aAx hs.2 h
theorem aQm (hp:Pc L out):lvJ L out (out.toNat+1)=[]:=by
 unfold lvJ
 have:(dD L out).filter (fun i=>decide (out.toNat+1<=i))=[]:=by
  rw[List.filter_eq_nil_iff]
  intro i hi
  have:=aHo hp.ok hp.o1 ((fZ hp.ok hp.o1).1 hi).2
  simp;omega
 rw[this];rfl
theorem aQn (hp:Pc L out){j:Nat}(hj:j < L.length)(h:Lv L out j):lvJ L out j=lvJ L out (j+1)++[(j:Int)]:=by
 unfold lvJ
 rw[aAx (kU L out) ((fZ hp.ok hp.o1).2 ⟨hj,h⟩),List.reverse_cons,List.map_append]
 rfl
theorem aUr (hp:Pc L out){j:Nat}(h:¬Lv L out j):lvJ L out j=lvJ L out (j+1):=by
 unfold lvJ
 congr 2
 apply List.filter_congr
 intro i hi
 have:i≠j:=fun e=>h (e ▸ ((fZ hp.ok hp.o1).1 hi).2)
 rw[Bool.eq_iff_iff,decide_eq_true_iff,decide_eq_true_iff]
 omega
theorem aL7 (L:List In)(out:Int):(lvJ L out 0).reverse=lvZ L out:=by
 unfold lvJ lvZ
 have:(dD L out).filter (fun i=>decide (0<=i))=dD L out:=by
  rw[List.filter_eq_self];intro i _;simp
 rw[this,<-List.map_reverse,List.reverse_reverse]
theorem aQl (L:List In)(out:Int)(j:Nat):(lvJ L out j).length<=L.length:=by
 unfold lvJ
 rw[List.length_map,List.length_reverse]
 exact Nat.le_trans (List.length_filter_le _ _) (aBv L out)
theorem aBw (L:List In)(out:Int):(lvZ L out).length=(dD L out).length:=by simp[lvZ]
theorem aUt (hk:k < (dD L out).length):(lvZ L out).getD k 0=(((dD L out).getD k 0:Nat):Int):=by
 unfold lvZ
 rw[List.getD_eq_getElem?_getD,List.getElem?_map,List.getD_eq_getElem?_getD,List.getElem?_eq_getElem hk]
 rfl
def prK (L:List In)(out:Int)(k:Nat):List In:=(qW L out).take k
theorem Pc.th {L:List In}{out:Int}(h:Pc L out){k:Nat}(hk:k < (dD L out).length):bZ (L.getD ((dD L out).getD k 0) i0) (toK (dD L out) L.length (k+1))=(qW L out).getD k i0:=by
 rw[aCb hk]
 apply aSd
 intro r hr
 obtain⟨r0,r1,r2,r3,r4⟩:=h.reg hk hr
 rw[r2]
 unfold dA
 have hl:=((fZ h.ok h.o1).1 r1).1
 rw[nT,if_neg (by omega),aCv (kU L out) (fun j hj=>((fZ h.ok h.o1).1 hj).1) (k+1) (by omega),if_pos ⟨r1,by omega⟩]
theorem aNb (hk:k < (dD L out).length):prK L out (k+1)=prK L out k++[(qW L out).getD k i0]:=Cde.aH i0 (by rw[iN];exact hk)
theorem aRh (hk:k<=(dD L out).length):(prK L out k).length=k:=by
 unfold prK;rw[List.length_take,iN];omega
theorem aNa (L:List In)(out:Int):prK L out (dD L out).length=qW L out:=List.take_of_length_le (by rw[iN];exact Nat.le_refl _)
def rvK (D:List Int):Nat->List Int
 | 0=>D
 | k+1=>((rvK D k).set k ((rvK D k).getD (D.length-1-k) 0)).set (D.length-1-k) ((rvK D k).getD k 0)
theorem vU (D:List Int):∀ k,(rvK D k).length=D.length
 | 0=>rfl
 | k+1=>by rw[rvK,List.length_set,List.length_set,vU D k]
theorem aH1 (D:List Int):∀(k:Nat),2*k<=D.length->∀ p,p < D.length->(rvK D k).getD p 0=if p < k\/D.length<=p+k then D.getD (D.length-1-p) 0 else D.getD p 0
 | 0,_,p,hp=>by rw[if_neg (by omega)];rfl
 | k+1,hk,p,hp=>by
  have ih:=aH1 D k (by omega)
  rw[rvK,wZ,wZ,List.length_set,vU]
  by_cases h1:p=D.length-1-k
  ·rw[if_pos ⟨h1,by omega⟩,ih k (by omega),if_neg (by omega),if_pos (by omega)]
   congr 1;omega
  ·rw[if_neg (fun hc=>h1 hc.1)]
   by_cases h2:p=k
   ·rw[if_pos ⟨h2,by omega⟩,ih _ (by omega),if_neg (by omega),if_pos (by omega)]
    congr 1;omega
   ·rw[if_neg (fun hc=>h2 hc.1),ih p hp]
    by_cases h3:p < k\/D.length<=p+k
    ·rw[if_pos h3,if_pos (by omega)]
    ·rw[if_neg h3,if_neg (by omega)]
theorem aRw (D:List Int)(h1:2*k<=D.length)(h2:D.length<=2*k+1):rvK D k=D.reverse:=by
 apply List.ext_getElem (by rw[vU,List.length_reverse])
 intro p q1 q2
 have hp:p < D.length:=by rw[vU] at q1;exact q1
 have e:=aH1 D k h1 p hp
 rw[List.getD_eq_getElem?_getD,List.getElem?_eq_getElem q1,Option.getD_some] at e
 have e2:D.getD (D.length-1-p) 0=D[D.length-1-p]:=by rw[List.getD_eq_getElem?_getD,List.getElem?_eq_getElem (by omega),Option.getD_some]
 rw[e,List.getElem_reverse,<-e2]
 split
 ·rfl
 ·congr 1;omega
end Go.Proofs.Prn
