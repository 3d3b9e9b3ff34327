import Derived.Test.YtijbmdmeiancgaaGreatXH
import Derived.Test.YtijbmdmeiancgaaGreatX28
import Derived.Test.YtijbmdmeiancgaaGreatX18
set_option maxRecDepth 100000
set_option maxHeartbeats 32000000
set_option linter.unusedVariables false
namespace Go.Proofs.Prn
open Go.RowKit Go.IntWalk Knd
open YtijbmdmeiancgaaGreat (Wd tF Fits inpV)
open Cde (In i0 dP dG bJ eO jG eP lL fB qY rF nG jM kZ oP nI)
open Vfy (nM bL aT w32 eT gN wE jV uA zV pR eH)
open Fld (ar vl rg bS dK Rv gv bO)
open Rdc (lC)
variable {i:Nat} {L:List In} {out:Int}
inductive Lv (L:List In) (out:Int):Nat->Prop
 | ans:Lv L out out.toNat
 | arg {i:Nat} {r:Int}:Lv L out i->r ∈ dP (L.getD i i0)->Lv L out r.toNat
def mkA (B:List Bool)(P:List Int):List Bool:=P.foldl (fun B r=>B.set r.toNat true) B
def lvS (L:List In)(B:List Bool)(i:Nat):List Bool:=if B.getD i false=true then mkA B (dP (L.getD i i0)) else B
def lvM (L:List In)(out:Int):List Bool:=((List.range L.length).reverse).foldl (lvS L) ((List.replicate L.length false).set out.toNat true)
theorem aEp (P:List Int):∀ B:List Bool,(mkA B P).length=B.length:=by
 induction P with
 | nil=>intro B;rfl
 | cons r P ih=>intro B;show (mkA (B.set r.toNat true) P).length=_;rw[ih,List.length_set]
theorem uT {B:List Bool}{r:Nat}:(B.set r true).getD i false=if i=r/\r < B.length then true else B.getD i false:=by
 rw[List.getD_eq_getElem?_getD,List.getElem?_set,List.getD_eq_getElem?_getD]
 by_cases e:r=i
 ·subst e
  by_cases h:r < B.length
  ·simp[h]
  ·simp[h]
 ·rw[if_neg e,if_neg (by omega)]
theorem qO (P:List Int):∀(B:List Bool) (i:Nat),(mkA B P).getD i false=true↔B.getD i false=true\/(i < B.length/\∃ r ∈ P,r.toNat=i):=by
 induction P with
 | nil=>intro B i;simp[mkA]
 | cons r P ih =>
  intro B i
  show (mkA (B.set r.toNat true) P).getD i false=true↔_
  rw[ih,uT,List.length_set]
  constructor
  ·rintro(h|⟨h1,q,h2,h3⟩)
   ·split at h
    ·rename_i e
     exact .inr ⟨by omega,r,by simp,e.1.symm⟩
    ·exact .inl h
   ·exact .inr ⟨h1,q,by simp[h2],h3⟩
  ·rintro(h|⟨h1,q,h2,h3⟩)
   ·left
    split
    ·rfl
    ·exact h
   ·rcases List.mem_cons.1 h2 with rfl|h2
    ·left
     rw[if_pos ⟨h3.symm,by omega⟩]
    ·exact .inr ⟨h1,q,h2,h3⟩
structure Mk (L:List In)(out:Int)(k:Nat)(B:List Bool):Prop where
 len:B.length=L.length
 lv:∀ i,B.getD i false=true->Lv L out i
 ans:B.getD out.toNat false=true
 cl:∀ i,k<=i->i < L.length->B.getD i false=true->∀ r ∈ dP (L.getD i i0),B.getD r.toNat false=true
theorem Mk.step {k:Nat}{B:List Bool}(h:Mk L out (k+1) B)(hk:k < L.length)(ho:bJ (L.getD k i0) k=true):Mk L out k (lvS L B k):=by
 unfold lvS
 by_cases hb:B.getD k false=true
 ·rw[if_pos hb]
  have hr:∀ r ∈ dP (L.getD k i0),r.toNat < k:=fun r hr=>(Vfy.mP ho hr).2
  refine⟨by rw[aEp];exact h.len,fun i hi=>?_,(qO _ _ _).2 (.inl h.ans),fun i h1 h2 h3 r h4=>?_⟩
  ·rcases(qO _ _ _).1 hi with h1|⟨-,r,h1,rfl⟩
   ·exact h.lv i h1
   ·exact .arg (h.lv k hb) h1
  ·by_cases e:i=k
   ·subst e
    exact(qO _ _ _).2 (.inr ⟨by have:=hr r h4;have:=h.len;omega,r,h4,rfl⟩)
   ·have hi:B.getD i false=true:=by
     rcases(qO _ _ _).1 h3 with h5|⟨-,q,h5,h6⟩
     ·exact h5
     ·have:=hr q h5
      omega
    exact(qO _ _ _).2 (.inl (h.cl i (by omega) h2 hi r h4))
 ·rw[if_neg hb]
  refine⟨h.len,h.lv,h.ans,fun i h1 h2 h3 r h4=>?_⟩
  by_cases e:i=k
  ·subst e;exact absurd h3 hb
  ·exact h.cl i (by omega) h2 h3 r h4
theorem Mk.start (ho:out.toNat < L.length):Mk L out L.length ((List.replicate L.length false).set out.toNat true):=by
 refine⟨by simp,fun i hi=>?_,?_,fun i h1 h2=>absurd h2 (by omega)⟩
 ·rw[uT] at hi
  split at hi
  ·rename_i e
   rw[e.1];exact .ans
  ·rw[List.getD_eq_getElem?_getD,List.getElem?_replicate] at hi
   split at hi <;> simp at hi
 ·rw[uT,if_pos ⟨rfl,by simpa using ho⟩]
theorem Mk.down {L:List In}{out:Int}(hok:eO L L.length=true):∀(k:Nat) (B:List Bool),k<=L.length->Mk L out k B->Mk L out 0 (((List.range k).reverse).foldl (lvS L) B)
 | 0,B,_,h=>by simpa using h
 | k+1,B,hk,h=>by
  rw[List.range_succ,List.reverse_append]
  show Mk L out 0 (((List.range k).reverse).foldl (lvS L) (lvS L B k))
  exact Mk.down hok k _ (by omega) (h.step (by omega) (Cde.bW hok (by omega)))
theorem aCp (hok:eO L L.length=true)(ho:out.toNat < L.length):Mk L out 0 (lvM L out):=Mk.down hok L.length _ (Nat.le_refl _) (Mk.start ho)
theorem Mk.iff {B:List Bool}(h:Mk L out 0 B)(hok:eO L L.length=true)(ho:out.toNat < L.length)(i:Nat):B.getD i false=true↔Lv L out i:=by
 refine⟨h.lv i,fun hl=>?_⟩
 have:B.getD i false=true/\i < L.length:=by
  induction hl with
  | ans=>exact⟨h.ans,ho⟩
  | @arg j r h1 h2 ih=>exact⟨h.cl j (Nat.zero_le _) ih.2 ih.1 r h2,by have:=(Vfy.mP (Cde.bW hok ih.2) h2).2;omega⟩
 exact this.1
theorem aEc (hok:eO L L.length=true)(ho:out.toNat < L.length)(h:Lv L out i):i<=out.toNat:=by
 have:i<=out.toNat/\i < L.length:=by
  induction h with
  | ans=>exact⟨Nat.le_refl _,ho⟩
  | @arg j r h1 h2 ih =>
   have:=(Vfy.mP (Cde.bW hok ih.2) h2).2
   exact⟨by omega,by omega⟩
 exact this.1
def dH (L:List In)(out:Int):List Nat:=(List.range L.length).filter fun i=>(lvM L out).getD i false
def sU (L:List In)(out:Int):List Int:=(List.range L.length).map fun i=>if (lvM L out).getD i false=true then(((dH L out).idxOf i:Nat):Int) else 0
def nQ (L:List In)(out:Int):List In:=(dH L out).map fun i=>bS (L.getD i i0) (sU L out)
def yH (L:List In)(out:Int):Int:=(sU L out).getD out.toNat 0
theorem fZ (hok:eO L L.length=true)(ho:out.toNat < L.length):i ∈ dH L out↔i < L.length/\Lv L out i:=by
 unfold dH
 rw[List.mem_filter,List.mem_range]
 exact and_congr_right fun _=>(aCp hok ho).iff hok ho i
theorem aHu (hi:i ∈ dH L out):(sU L out).getD i 0=(((dH L out).idxOf i:Nat):Int)/\(dH L out).idxOf i < (dH L out).length/\(dH L out).getD ((dH L out).idxOf i) 0=i:=by
 have h:=hi
 unfold dH at h
 rw[List.mem_filter,List.mem_range] at h
 have hlt:=List.idxOf_lt_length_of_mem hi
 refine⟨?_,hlt,?_⟩
 ·unfold sU
  rw[List.getD_eq_getElem?_getD,List.getElem?_map,List.getElem?_range h.1]
  show (if (lvM L out).getD i false=true then _ else _)=_
  rw[if_pos h.2]
 ·rw[List.getD_eq_getElem?_getD,List.getElem?_eq_getElem hlt]
  simp
end Go.Proofs.Prn
namespace Go.Proofs.Prn
open Go.RowKit Go.IntWalk Knd
open YtijbmdmeiancgaaGreat (Wd tF Fits inpV)
open Cde (In i0 dP dG bJ eO jG eP lL fB qY rF nG jM kZ oP nI)
open Vfy (nM bL aT w32 eT gN wE jV uA zV pR eH)
open Fld (ar vl rg bS dK Rv gv bO sG fA kW xR qW av3 iE)
open Rdc (lC)
variable {L:List In} {out:Int} {j:Nat}
theorem aKk (n:In)(T:List Int):dP (bS n T)=(dP n).map (dK T):=by
 rcases Cde.gT n.op with e|e|e|e|e
 ·have e1:dP n=[]:=by unfold dP dG;rw[e];rfl
  have e2:dP (bS n T)=[]:=by unfold dP dG;rw[show Spn.ar (bS n T).op=-1 from e];rfl
  rw[e1,e2];rfl
 ·have e1:dP n=[]:=by unfold dP dG;rw[e];rfl
  have e2:dP (bS n T)=[]:=by unfold dP dG;rw[show Spn.ar (bS n T).op=0 from e];rfl
  rw[e1,e2];rfl
 ·have e':ar n.op=1:=e
  rw[sG e',sG (n:=bS n T) e']
  have ea:(bS n T).a=dK T n.a:=by show (if 0 < ar n.op then dK T n.a else n.a)=_;rw[if_pos (by omega)]
  rw[ea];rfl
 ·have e':ar n.op=2:=e
  rw[fA e',fA (n:=bS n T) e']
  have ea:(bS n T).a=dK T n.a:=by show (if 0 < ar n.op then dK T n.a else n.a)=_;rw[if_pos (by omega)]
  have eb:(bS n T).b=dK T n.b:=by show (if 1 < ar n.op then dK T n.b else n.b)=_;rw[if_pos (by omega)]
  rw[ea,eb];rfl
 ·have e':ar n.op=3:=e
  rw[kW e',kW (n:=bS n T) e']
  have ea:(bS n T).a=dK T n.a:=by show (if 0 < ar n.op then dK T n.a else n.a)=_;rw[if_pos (by omega)]
  have eb:(bS n T).b=dK T n.b:=by show (if 1 < ar n.op then dK T n.b else n.b)=_;rw[if_pos (by omega)]
  have ec:(bS n T).c=dK T n.c:=by show (if 2 < ar n.op then dK T n.c else n.c)=_;rw[if_pos (by omega)]
  rw[ea,eb,ec];rfl
theorem aPj {n:In}{T:List Int}{k m:Nat}(h:∀ r ∈ dP n,bO (dK T r) m)(ho:bJ n k=true):bJ (bS n T) m=true:=by
 have hc:=Cde.nV ho
 have ha:=Cde.vI ho
 simp only[bJ,oP,Bool.and_eq_true,iE] at ho
 obtain⟨⟨-,⟨⟨a1,a2⟩,b1,b2⟩,c1,c2⟩,-⟩:=ho
 simp only[decide_eq_true_eq,decide_eq_false_iff_not] at a1 a2 b1 b2 c1 c2
 have hc':kZ (bS n T)=true:=hc
 have ma:0 < ar n.op->n.a ∈ dP n:=fun u=>by
  rcases Cde.gT n.op with e|e|e|e|e
  ·have:ar n.op=-1:=e;omega
  ·have:ar n.op=0:=e;omega
  ·rw[sG e];simp
  ·rw[fA e];simp
  ·rw[kW e];simp
 have mb:1 < ar n.op->n.b ∈ dP n:=fun u=>by
  rcases Cde.gT n.op with e|e|e|e|e
  ·have:ar n.op=-1:=e;omega
  ·have:ar n.op=0:=e;omega
  ·have:ar n.op=1:=e;omega
  ·rw[fA e];simp
  ·rw[kW e];simp
 have mc:2 < ar n.op->n.c ∈ dP n:=fun u=>by
  rcases Cde.gT n.op with e|e|e|e|e
  ·have:ar n.op=-1:=e;omega
  ·have:ar n.op=0:=e;omega
  ·have:ar n.op=1:=e;omega
  ·have:ar n.op=2:=e;omega
  ·rw[kW e];simp
 simp only[bJ,oP,Bool.and_eq_true,iE,hc',decide_eq_true_eq,decide_eq_false_iff_not]
 refine⟨⟨ha,⟨⟨fun u=>?_,fun u=>?_⟩,fun u=>?_,fun u=>?_⟩,fun u=>?_,fun u=>?_⟩,trivial⟩
 ·show bO (if 0 < ar n.op then dK T n.a else n.a) m
  rw[if_pos (show 0 < ar n.op from u)];exact h _ (ma u)
 ·show (if 0 < ar n.op then dK T n.a else n.a)=0
  rw[if_neg (show ¬0 < ar n.op from u)];exact a2 u
 ·show bO (if 1 < ar n.op then dK T n.b else n.b) m
  rw[if_pos (show 1 < ar n.op from u)];exact h _ (mb u)
 ·show (if 1 < ar n.op then dK T n.b else n.b)=0
  rw[if_neg (show ¬1 < ar n.op from u)];exact b2 u
 ·show bO (if 2 < ar n.op then dK T n.c else n.c) m
  rw[if_pos (show 2 < ar n.op from u)];exact h _ (mc u)
 ·show (if 2 < ar n.op then dK T n.c else n.c)=0
  rw[if_neg (show ¬2 < ar n.op from u)];exact c2 u
theorem kL (L:List In)(out:Int):(dH L out).Pairwise (· < ·):=List.Pairwise.filter _ List.pairwise_lt_range
theorem aPc {p q:Nat}(hp:p < (dH L out).length)(hq:q < (dH L out).length)(h:(dH L out).getD p 0 < (dH L out).getD q 0):p < q:=by
 rcases Nat.lt_trichotomy p q with e|e|e
 ·exact e
 ·subst e;omega
 ·have:=List.pairwise_iff_getElem.1 (kL L out) q p hq hp e
  rw[List.getD_eq_getElem?_getD,List.getElem?_eq_getElem hp,List.getD_eq_getElem?_getD,List.getElem?_eq_getElem hq] at h
  simp at h
  omega
theorem qH (L:List In)(out:Int):(sU L out).length=L.length:=by simp[sU]
theorem gU (L:List In)(out:Int):(nQ L out).length=(dH L out).length:=by simp[nQ]
structure Pc (L:List In)(out:Int):Prop where
 ok:eO L L.length=true
 o0:0<=out
 o1:out.toNat < L.length
theorem Pc.mem (h:Pc L out)(hj:j < (dH L out).length):(dH L out).getD j 0 < L.length/\Lv L out ((dH L out).getD j 0):=by
 have:(dH L out).getD j 0 ∈ dH L out:=by rw[List.getD_eq_getElem?_getD,List.getElem?_eq_getElem hj];exact List.getElem_mem _
 exact(fZ h.ok h.o1).1 this
theorem Pc.reg (h:Pc L out)(hj:j < (dH L out).length){r:Int}(hr:r ∈ dP (L.getD ((dH L out).getD j 0) i0)) :
  0<=r/\r.toNat ∈ dH L out/\dK (sU L out) r=(((dH L out).idxOf r.toNat:Nat):Int)/\(dH L out).idxOf r.toNat < j/\(dH L out).getD ((dH L out).idxOf r.toNat) 0=r.toNat:=by
 obtain⟨h1,h2⟩:=h.mem hj
 obtain⟨r0,r1⟩:=Vfy.mP (Cde.bW h.ok h1) hr
 have hm:r.toNat ∈ dH L out:=(fZ h.ok h.o1).2 ⟨by omega,.arg h2 hr⟩
 obtain⟨t1,t2,t3⟩:=aHu hm
 refine⟨r0,hm,?_,aPc t2 hj (by rw[t3];exact r1),t3⟩
 unfold dK
 rw[qH,if_neg (by omega),t1]
theorem vJ (hj:j < (dH L out).length):(nQ L out).getD j i0=bS (L.getD ((dH L out).getD j 0) i0) (sU L out):=by
 unfold nQ
 rw[List.getD_eq_getElem?_getD,List.getElem?_map,List.getD_eq_getElem?_getD (l:=dH L out),List.getElem?_eq_getElem hj]
 rfl
theorem Pc.okN (h:Pc L out)(hj:j < (dH L out).length):bJ ((nQ L out).getD j i0) j=true:=by
 rw[vJ hj]
 refine aPj (fun r hr=>?_) (Cde.bW h.ok (h.mem hj).1)
 obtain⟨-,-,e,e2,-⟩:=h.reg hj hr
 rw[e]
 exact⟨by omega,by simpa using e2⟩
theorem Pc.vals (h:Pc L out){f d:Int}{v:Wd}{V:List Int}(hV:Rv f d v L V):Rv f d v (nQ L out) ((dH L out).map fun i=>V.getD i 0):=by
 have hget:∀ j,j < (dH L out).length->((dH L out).map fun i=>V.getD i 0).getD j 0=V.getD ((dH L out).getD j 0) 0:=fun j hj=>by
  rw[List.getD_eq_getElem?_getD,List.getElem?_map,List.getD_eq_getElem?_getD (l:=dH L out),List.getElem?_eq_getElem hj]
  rfl
 refine⟨by simp[nQ],fun j hj=>?_,fun j hj=>?_⟩
 ·exact h.okN (by rw[gU] at hj;exact hj)
 ·rw[gU] at hj
  obtain⟨h1,h2⟩:=h.mem hj
  have hv:=hV.val _ h1
  rw[vJ hj,hget j hj,<-hv]
  unfold fB
  have e:jM ((dH L out).map fun i=>V.getD i 0) (bS (L.getD ((dH L out).getD j 0) i0) (sU L out))=jM V (L.getD ((dH L out).getD j 0) i0):=by
   unfold jM
   rw[aKk,List.map_map]
   apply List.map_congr_left
   intro r hr
   obtain⟨-,-,e,e2,e3⟩:=h.reg hj hr
   show ((dH L out).map fun i=>V.getD i 0).getD (dK (sU L out) r).toNat 0=V.getD r.toNat 0
   rw[e,Int.toNat_natCast,hget _ (by omega),e3]
  rw[e]
  rfl
end Go.Proofs.Prn
namespace Go.Proofs.Prn
open Go.RowKit Go.IntWalk Knd
open YtijbmdmeiancgaaGreat (Wd tF Fits inpV)
open Cde (In i0 dP dG bJ eO jG eP lL fB qY rF nG jM kZ oP nI)
open Vfy (nM bL aT w32 eT gN wE jV uA zV pR eH)
open Fld (ar vl rg bS dK Rv gv bO sG fA kW xR qW av3 iE)
open Rdc (lC)
variable {d f out:Int} {L:List In}
theorem aEj {S:eH}(h:gN f d L=(0,S))(k:Nat):(gN f d (L.take k)).1=0:=by
 by_cases hc:(gN f d (L.take k)).1=0
 ·exact hc
 ·have e:=Vfy.tL (L:=L) (k:=k) rfl hc
  rw[h] at e
  rw[<-e] at hc
  exact absurd rfl hc
theorem aLd {S:eH}(hok:eO L L.length=true)(h:gN f d L=(0,S)){i:Nat}(hi:i < L.length):jV f d S (L.getD i i0)=(S.getD i (0,0),0):=by
 have e1:=aEj h i
 have e2:=aEj h (i+1)
 have l1:=Vfy.tY f d L i (by omega) e1
 have q1:gN f d (L.take i)=(0,(gN f d (L.take i)).2):=Prod.ext e1 rfl
 generalize (gN f d (L.take i)).2=A at q1 l1
 rw[Cde.aM i0 hi,Vfy.iL,q1,wE,if_pos rfl] at e2
 have hn:(jV f d A (L.getD i i0)).2=0:=by
  by_cases hc:(jV f d A (L.getD i i0)).2=0
  ·exact hc
  ·rw[if_neg hc] at e2;exact e2
 have q2:=Rdc.zO (n:=L.getD i i0) (s:=(jV f d A (L.getD i i0)).1) q1 (Prod.ext rfl hn)
 rw[<-Cde.aM i0 hi] at q2
 obtain⟨Z,hZ⟩:=Rdc.aIe (L.drop (i+1)) (L.take (i+1)) _ S q2 (by rw[List.take_append_drop];exact h)
 have e3:jV f d S (L.getD i i0)=jV f d A (L.getD i i0):=by
  rw[hZ,List.append_assoc];exact Vfy.zQ (by rw[l1];exact Cde.bW hok hi)
 have e4:S.getD i (0,0)=(jV f d A (L.getD i i0)).1:=by
  rw[hZ]
  simp[List.getD_eq_getElem?_getD,<-l1]
 rw[e3,e4]
 exact Prod.ext rfl hn
theorem aAh {f d:Int}{L:List In}{S:eH}(hok:∀ i,i < L.length->bJ (L.getD i i0) i=true)(hl:S.length=L.length)(h:∀ i,i < L.length->jV f d S (L.getD i i0)=(S.getD i (0,0),0)):∀ k,k<=L.length->gN f d (L.take k)=(0,S.take k)
 | 0,_=>by simp[gN]
 | k+1,hk=>by
  have ih:=aAh hok hl h k (by omega)
  rw[Cde.aM i0 (by omega),Cde.aM (0,0) (by omega)]
  refine Rdc.zO ih ?_
  rw[<-h k (by omega)]
  have e:=Vfy.zQ (f:=f) (d:=d) (S:=S.take k) (Z:=S.drop k) (n:=L.getD k i0) (by rw[List.length_take,Nat.min_eq_left (by omega)];exact hok k (by omega))
  rw[List.take_append_drop] at e
  exact e.symm
theorem aQe {S:eH}(hok:∀ i,i < L.length->bJ (L.getD i i0) i=true)(hl:S.length=L.length)(h:∀ i,i < L.length->jV f d S (L.getD i i0)=(S.getD i (0,0),0)):gN f d L=(0,S):=by
 have:=aAh hok hl h L.length (Nat.le_refl _)
 rwa[List.take_length,<-hl,List.take_length] at this
theorem Pc.okA (h:Pc L out):∀ j,j < (nQ L out).length->bJ ((nQ L out).getD j i0) j=true:=fun j hj=>h.okN (by rw[gU] at hj;exact hj)
theorem Pc.sgs (h:Pc L out){S:eH}(hS:gN f d L=(0,S)):gN f d (nQ L out)=(0,(dH L out).map fun i=>S.getD i (0,0)):=by
 have hget:∀ j,j < (dH L out).length->((dH L out).map fun i=>S.getD i (0,0)).getD j (0,0)=S.getD ((dH L out).getD j 0) (0,0):=fun j hj=>by
  rw[List.getD_eq_getElem?_getD,List.getElem?_map,List.getD_eq_getElem?_getD (l:=dH L out),List.getElem?_eq_getElem hj]
  rfl
 refine aQe h.okA (by simp[nQ]) fun j hj=>?_
 rw[gU] at hj
 obtain⟨h1,h2⟩:=h.mem hj
 have hv:=aLd h.ok hS h1
 rw[vJ hj,hget j hj,<-hv]
 have e:uA ((dH L out).map fun i=>S.getD i (0,0)) (bS (L.getD ((dH L out).getD j 0) i0) (sU L out))=uA S (L.getD ((dH L out).getD j 0) i0):=by
  unfold uA
  rw[aKk,List.map_map]
  apply List.map_congr_left
  intro r hr
  obtain⟨-,-,e,e2,e3⟩:=h.reg hj hr
  show ((dH L out).map fun i=>S.getD i (0,0)).getD (dK (sU L out) r).toNat (0,0)=S.getD r.toNat (0,0)
  rw[e,Int.toNat_natCast,hget _ (by omega),e3]
 unfold jV
 rw[e]
 rfl
theorem aBp (n:In)(L:List In):eP (n::L)=lL n.op+eP L:=by
 have e:n::L=[n]++L:=rfl
 rw[e,lC]
 have:eP [n]=lL n.op:=by simp[eP]
 omega
theorem wW (F G:Nat->In)(hF:∀ i,(F i).op=(G i).op)(p:Nat->Bool):∀ I:List Nat,eP ((I.filter p).map F)<=eP (I.map G)
 | []=>by simp
 | i::I=>by
  have ih:=wW F G hF p I
  have:=(Cde.aCl (G i).op).1
  rw[List.map_cons,aBp]
  by_cases hp:p i=true
  ·rw[List.filter_cons_of_pos hp,List.map_cons,aBp,hF];omega
  ·rw[List.filter_cons_of_neg hp];omega
theorem aGr (L:List In):(List.range L.length).map (fun i=>L.getD i i0)=L:=by
 apply List.ext_getElem (by simp)
 intro i h1 h2
 simp[List.getD_eq_getElem?_getD,List.getElem?_eq_getElem h2]
theorem aBb (L:List In)(out:Int):eP (nQ L out)<=eP L:=by
 have:=wW (fun i=>bS (L.getD i i0) (sU L out)) (fun i=>L.getD i i0) (fun i=>rfl) (fun i=>(lvM L out).getD i false) (List.range L.length)
 rw[aGr] at this
 exact this
theorem tZ (L:List In)(out:Int):(dH L out).length<=L.length:=by
 have:=List.length_filter_le (fun i=>(lvM L out).getD i false) (List.range L.length)
 rwa[List.length_range] at this
theorem Pc.ans {L:List In}{out:Int}(h:Pc L out):out.toNat ∈ dH L out:=(fZ h.ok h.o1).2 ⟨h.o1,.ans⟩
theorem Pc.last (h:Pc L out):yH L out=((dH L out).length:Int)-1/\1<=(dH L out).length/\(dH L out).getD ((dH L out).length-1) 0=out.toNat:=by
 obtain⟨t1,t2,t3⟩:=aHu h.ans
 have hl:(dH L out).idxOf out.toNat=(dH L out).length-1:=by
  by_cases e:(dH L out).idxOf out.toNat=(dH L out).length-1
  ·exact e
  ·have hq:(dH L out).length-1 < (dH L out).length:=by omega
   have hp:=List.pairwise_iff_getElem.1 (kL L out) _ _ t2 hq (by omega)
   have hm:=(fZ h.ok h.o1).1 (List.getElem_mem hq)
   have:=aEc h.ok h.o1 hm.2
   rw[List.getD_eq_getElem?_getD,List.getElem?_eq_getElem t2,Option.getD_some] at t3
   omega
 rw[hl] at t1 t3
 refine⟨?_,by omega,t3⟩
 unfold yH
 rw[t1]
 omega
theorem vC (h:jG f d L out=true):Pc L out:=by
 obtain⟨-,-,-,h0,h1,ho⟩:=Cde.bD h
 exact⟨ho,h0,by omega⟩
theorem aPr (h:∀ j,j < L.length->bJ (L.getD j i0) j=true):eO L L.length=true:=by
 unfold eO
 rw[List.all_eq_true]
 intro i hi
 exact h i (List.mem_range.1 hi)
theorem aOb (h:jG f d L out=true):jG f d (nQ L out) (yH L out)=true:=by
 obtain⟨hm,h1,h2,h3,h4,ho⟩:=Cde.bD h
 have hp:=vC h
 obtain⟨l1,l2,-⟩:=hp.last
 have:=tZ L out
 have e:=gU L out
 simp only[jG,Bool.and_eq_true,decide_eq_true_eq,Spn.aP]
 refine⟨⟨⟨hm,?_⟩,?_⟩,aPr hp.okA⟩
 ·omega
 ·omega
theorem aIi (h:bL f d L out=0):bL f d (nQ L out) (yH L out)=0:=by
 obtain⟨m,ha,⟨S,hS,hSl,hs⟩,hc,-⟩:=aT h
 have hp:=vC m
 rw[Vfy.aEd,Vfy.uC]
 refine⟨⟨aOb m,?_⟩,by rw[hp.sgs hS],by have:=aBb L out;omega⟩
 rw[List.any_eq_false] at ha ⊢
 intro n hn
 unfold nQ at hn
 obtain⟨i,hi,rfl⟩:=List.mem_map.1 hn
 have hi2:=((fZ hp.ok hp.o1).1 hi).1
 exact ha (L.getD i i0) (Cde.oF i0 hi2)
theorem aK5 (h:bL f d L out=0){v:Wd}(hF:Fits f d v) :
  ∃ V U,nG f d v L out=(0,V)/\nG f d v (nQ L out) (yH L out)=(0,U)/\V.length=L.length/\U.length=(nQ L out).length/\0<=yH L out/\(yH L out).toNat < (nQ L out).length/\U.getD (yH L out).toNat 0=V.getD out.toNat 0:=by
 obtain⟨m,-⟩:=aT h
 have hp:=vC m
 obtain⟨l1,l2,l3⟩:=hp.last
 obtain⟨V,hV,hVl,hO⟩:=Rdc.aAk h hF
 have hU:=hp.vals hO.rv
 refine⟨V,_,hV,by rw[nG,if_pos (aOb m),if_pos hF];exact Rdc.aJr hU,hVl,hU.len,by omega,by rw[gU];omega,?_⟩
 have e:(yH L out).toNat=(dH L out).length-1:=by omega
 have hq:(dH L out).length-1 < (dH L out).length:=by omega
 rw[e,List.getD_eq_getElem?_getD,List.getElem?_map,List.getElem?_eq_getElem hq]
 rw[List.getD_eq_getElem?_getD,List.getElem?_eq_getElem hq,Option.getD_some] at l3
 show V.getD ((dH L out)[(dH L out).length-1]) 0=_
 rw[l3]
end Go.Proofs.Prn
namespace Go.Proofs.Prn
open Go.RowKit Go.IntWalk Knd
open YtijbmdmeiancgaaGreat (Wd tF Fits inpV)
open Cde (In i0 dP dG bJ eO jG eP lL fB qY rF nG jM kZ oP nI usU ctR agA)
open Vfy (nM bL aT w32 eT gN wE jV uA zV pR eH)
open Fld (ar vl rg bS dK Rv gv bO sG fA kW xR qW av3 iE)
theorem aC1 {l:List Nat}(hs:l.Pairwise (· < ·)){j:Nat}(hj:j < l.length):l.idxOf (l.getD j 0)=j:=by
 have e:l.getD j 0=l[j]:=by rw[List.getD_eq_getElem?_getD,List.getElem?_eq_getElem hj];rfl
 have hm:l[j] ∈ l:=List.getElem_mem hj
 have h1:=List.idxOf_lt_length_of_mem hm
 have h2:l[l.idxOf l[j]]=l[j]:=List.getElem_idxOf h1
 rw[e]
 rcases Nat.lt_trichotomy (l.idxOf l[j]) j with h|h|h
 ·have:=List.pairwise_iff_getElem.1 hs _ _ h1 hj h;omega
 ·exact h
 ·have:=List.pairwise_iff_getElem.1 hs _ _ hj h1 h;omega
theorem aNq {n:In}{T U:List Int}(h:∀ r ∈ dP n,dK T r=dK U r):bS n T=bS n U:=by
 have ma:0 < ar n.op->n.a ∈ dP n:=fun u=>by
  rcases Cde.gT n.op with e|e|e|e|e
  ·have:ar n.op=-1:=e;omega
  ·have:ar n.op=0:=e;omega
  ·rw[sG e];simp
  ·rw[fA e];simp
  ·rw[kW e];simp
 have mb:1 < ar n.op->n.b ∈ dP n:=fun u=>by
  rcases Cde.gT n.op with e|e|e|e|e
  ·have:ar n.op=-1:=e;omega
  ·have:ar n.op=0:=e;omega
  ·have:ar n.op=1:=e;omega
  ·rw[fA e];simp
  ·rw[kW e];simp
 have mc:2 < ar n.op->n.c ∈ dP n:=fun u=>by
  rcases Cde.gT n.op with e|e|e|e|e
  ·have:ar n.op=-1:=e;omega
  ·have:ar n.op=0:=e;omega
  ·have:ar n.op=1:=e;omega
  ·have:ar n.op=2:=e;omega
  ·rw[kW e];simp
 have ea:(if 0 < ar n.op then dK T n.a else n.a)=if 0 < ar n.op then dK U n.a else n.a:=by
  split
  ·exact h _ (ma ‹_›)
  ·rfl
 have eb:(if 1 < ar n.op then dK T n.b else n.b)=if 1 < ar n.op then dK U n.b else n.b:=by
  split
  ·exact h _ (mb ‹_›)
  ·rfl
 have ec:(if 2 < ar n.op then dK T n.c else n.c)=if 2 < ar n.op then dK U n.c else n.c:=by
  split
  ·exact h _ (mc ‹_›)
  ·rfl
 unfold bS
 rw[ea,eb,ec]
end Go.Proofs.Prn
namespace Go.Proofs.Prn
open Go.RowKit Go.IntWalk Knd
open Cde (In i0 dP bJ eO jG)
variable {A:List Int} {i:Nat} {L:List In} {out:Int}
structure Mi (L:List In)(out:Int)(A:List Int):Prop where
 len:A.length=L.length
 bit:∀ i,A.getD i 0=0\/A.getD i 0=1
 lv:∀ i,A.getD i 0=1->Lv L out i
 ans:A.getD out.toNat 0=1
theorem iR {r:Nat}{x:Int}:(A.set r x).getD i 0=if i=r/\r < A.length then x else A.getD i 0:=by
 rw[List.getD_eq_getElem?_getD,List.getElem?_set,List.getD_eq_getElem?_getD]
 by_cases e:r=i
 ·subst e
  by_cases h:r < A.length
  ·simp[h]
  ·simp[h]
 ·rw[if_neg e,if_neg (by omega)]
theorem vQ {n:Nat}:(List.replicate n (0:Int)).getD i 0=0:=by
 rw[List.getD_eq_getElem?_getD,List.getElem?_replicate]
 split <;> rfl
theorem Mi.start (ho:out.toNat < L.length):Mi L out ((List.replicate L.length (0:Int)).set out.toNat 1):=by
 refine⟨by simp,fun i=>?_,fun i hi=>?_,?_⟩
 ·rw[iR,vQ];split <;> simp
 ·rw[iR,vQ] at hi
  split at hi
  ·rename_i e;rw[e.1];exact .ans
  ·omega
 ·rw[iR,if_pos ⟨rfl,by simpa using ho⟩]
theorem Mi.set {L:List In}{out:Int}{A:List Int}(h:Mi L out A){i:Nat}(hi:A.getD i 0=1){r:Int}(hr:r ∈ dP (L.getD i i0)):Mi L out (A.set r.toNat 1):=by
 refine⟨by rw[List.length_set];exact h.len,fun j=>?_,fun j hj=>?_,?_⟩
 ·rw[iR];split
  ·exact .inr rfl
  ·exact h.bit j
 ·rw[iR] at hj
  split at hj
  ·rename_i e;rw[e.1];exact .arg (h.lv i hi) hr
  ·exact h.lv j hj
 ·rw[iR];split
  ·rfl
  ·exact h.ans
def Cl (L:List In)(A:List Int)(k:Nat):Prop:=∀ i,i < k->A.getD i 0=1->∀ r ∈ dP (L.getD i i0),A.getD r.toNat 0=1
theorem Mi.iff (h:Mi L out A)(hp:Pc L out)(hc:Cl L A L.length)(i:Nat):A.getD i 0=1↔Lv L out i:=by
 refine⟨h.lv i,fun hl=>?_⟩
 have:A.getD i 0=1/\i < L.length:=by
  induction hl with
  | ans=>exact⟨h.ans,hp.o1⟩
  | @arg j r h1 h2 ih=>exact⟨hc j ih.2 ih.1 r h2,by have:=(Vfy.mP (Cde.bW hp.ok ih.2) h2).2;omega⟩
 exact this.1
theorem Mi.live (h:Mi L out A)(hp:Pc L out)(hc:Cl L A L.length):(List.range L.length).filter (fun i=>decide (A.getD i 0=1))=dH L out:=by
 unfold dH
 apply List.filter_congr
 intro i _
 rw[Bool.eq_iff_iff,decide_eq_true_iff,h.iff hp hc,(aCp hp.ok hp.o1).iff hp.ok hp.o1]
def zrN (A:List Int):Nat:=(A.filter fun x=>decide (x=0)).length
theorem aQy (A:List Int):zrN A<=A.length:=List.length_filter_le _ _
theorem aK0:∀(A:List Int) (r:Nat),r < A.length->A.getD r 0=0->zrN (A.set r 1)+1=zrN A
 | [],r,h,_=>by simp at h
 | x::A,0,_,h=>by
  have hx:x=0:=h
  subst hx
  simp[zrN]
 | x::A,r+1,hl,h=>by
  have ih:=aK0 A r (by simpa using hl) (by simpa [List.getD_eq_getElem?_getD] using h)
  rw[List.set_cons_succ]
  unfold zrN at ih ⊢
  by_cases hx:x=0
  ·rw[List.filter_cons_of_pos (by simpa using hx),List.filter_cons_of_pos (by simpa using hx),List.length_cons,List.length_cons,ih]
  ·rw[List.filter_cons_of_neg (by simpa using hx),List.filter_cons_of_neg (by simpa using hx),ih]
def toK (l:List Nat)(n k:Nat):List Int:=(List.range k).foldl (fun T j=>T.set (l.getD j 0) (j:Int)) (List.replicate n 0)
theorem aIt (l:List Nat)(n:Nat):toK l n 0=List.replicate n 0:=rfl
theorem qC (l:List Nat)(n k:Nat):toK l n (k+1)=(toK l n k).set (l.getD k 0) (k:Int):=by
 unfold toK
 rw[List.range_succ,List.foldl_append]
 rfl
theorem lG (l:List Nat)(n:Nat):∀ k,(toK l n k).length=n
 | 0=>by simp[toK]
 | k+1=>by rw[qC,List.length_set,lG l n k]
theorem yN {l:List Nat}{n:Nat}(hs:l.Pairwise (· < ·))(hl:∀ i ∈ l,i < n){i:Nat}:∀ k,k<=l.length->(toK l n k).getD i 0=if i ∈ l/\l.idxOf i < k then((l.idxOf i:Nat):Int) else 0
 | 0,_=>by rw[aIt,vQ,if_neg (by omega)]
 | k+1,hk=>by
  have hg:l.getD k 0 ∈ l:=Cde.oF 0 (by omega)
  have hi:=aC1 hs (show k < l.length by omega)
  rw[qC,iR,yN hs hl k (by omega),lG]
  by_cases e:i=l.getD k 0
  ·rw[if_pos ⟨e,hl _ hg⟩,e,hi,if_pos ⟨hg,by omega⟩]
  ·rw[if_neg fun hc=>e hc.1]
   by_cases hm:i ∈ l
   ·have hne:l.idxOf i≠k:=fun hc=>by
     have h1:=List.idxOf_lt_length_of_mem hm
     have h2:l[l.idxOf i]=i:=List.getElem_idxOf h1
     have h3:l.getD (l.idxOf i) 0=i:=by rw[List.getD_eq_getElem?_getD,List.getElem?_eq_getElem h1,Option.getD_some];exact h2
     rw[hc] at h3
     exact e h3.symm
    by_cases hlt:l.idxOf i < k
    ·rw[if_pos ⟨hm,hlt⟩,if_pos ⟨hm,by omega⟩]
    ·rw[if_neg fun hc=>hlt hc.2,if_neg fun hc=>by omega]
   ·rw[if_neg fun hc=>hm hc.1,if_neg fun hc=>hm hc.1]
theorem aBh (hp:Pc L out):toK (dH L out) L.length (dH L out).length=sU L out:=by
 apply List.ext_getElem (by rw[lG,qH])
 intro i h1 h2
 have hi:i < L.length:=by rw[lG] at h1;exact h1
 have e:=yN (l:=dH L out) (n:=L.length) (i:=i) (kL L out) (fun j hj=>((fZ hp.ok hp.o1).1 hj).1) (dH L out).length (Nat.le_refl _)
 rw[List.getD_eq_getElem?_getD,List.getElem?_eq_getElem h1,Option.getD_some] at e
 have e2:(sU L out)[i]=if (lvM L out).getD i false=true then(((dH L out).idxOf i:Nat):Int) else 0:=by simp[sU]
 refine Eq.trans e (Eq.trans ?_ e2.symm)
 have hb:=((aCp hp.ok hp.o1).iff hp.ok hp.o1 i)
 by_cases hm:i ∈ dH L out
 ·rw[if_pos ⟨hm,List.idxOf_lt_length_of_mem hm⟩,if_pos (hb.2 ((fZ hp.ok hp.o1).1 hm).2)]
 ·rw[if_neg fun hc=>hm hc.1,if_neg fun hc=>hm ((fZ hp.ok hp.o1).2 ⟨hi,hb.1 hc⟩)]
end Go.Proofs.Prn
namespace Go.Proofs.Prn
open Go.RowKit Go.IntWalk Knd
open Cde (In i0 dP bJ eO jG)
open Fld (bS dK)
variable {L:List In} {out:Int} {k:Nat}
theorem Mk.one {B:List Bool}(h:Mk L out k B)(hp:Pc L out){i:Nat}(hi:k<=i+1):B.getD i false=true↔Lv L out i:=by
 refine⟨h.lv i,fun hl=>?_⟩
 have:k<=i+1->B.getD i false=true:=by
  induction hl with
  | ans=>intro _;exact h.ans
  | @arg j r h1 h2 ih =>
   intro hk
   have hj:j < L.length:=by have:=aEc hp.ok hp.o1 h1;have:=hp.o1;omega
   have:=(Vfy.mP (Cde.bW hp.ok hj) h2).2
   exact h.cl j (by omega) hj (ih (by omega) (by omega)) r h2
 exact this hi
theorem Mk.top (hp:Pc L out):Mk L out (out.toNat+1) ((List.replicate L.length false).set out.toNat true):=by
 have h:=Mk.start (L:=L) (out:=out) hp.o1
 refine⟨h.len,h.lv,h.ans,fun i h1 h2 h3=>?_⟩
 have:=aEc hp.ok hp.o1 (h.lv i h3)
 omega
theorem Mk.yes {B:List Bool}(h:Mk L out (k+1) B)(hp:Pc L out)(hk:k < L.length)(hb:B.getD k false=true):Mk L out k (mkA B (dP (L.getD k i0))):=by
 have e:=h.step hk (Cde.bW hp.ok hk)
 rwa[lvS,if_pos hb] at e
theorem Mk.no {B:List Bool}(h:Mk L out (k+1) B)(hp:Pc L out)(hk:k < L.length)(hb:B.getD k false=false):Mk L out k B:=by
 have e:=h.step hk (Cde.bW hp.ok hk)
 rwa[lvS,if_neg (by rw[hb];decide)] at e
theorem aKp (B:List Bool)(P:List Int)(r:Int):mkA B (P++[r])=(mkA B P).set r.toNat true:=by
 unfold mkA;rw[List.foldl_append];rfl
def lvJ (L:List In)(out:Int)(j:Nat):List Int:=(((dH L out).filter fun i=>decide (j<=i)).reverse).map fun i:Nat=>(i:Int)
def xB (L:List In)(out:Int):List Int:=(dH L out).map fun i:Nat=>(i:Int)
theorem xH:∀ {l:List Nat} {j:Nat},l.Pairwise (· < ·)->j ∈ l->l.filter (fun i=>decide (j<=i))=j::l.filter (fun i=>decide (j+1<=i))
 | [],j,_,h=>by simp at h
 | x::l,j,hs,h=>by
  rw[List.pairwise_cons] at hs
  rcases List.mem_cons.1 h with rfl|h
  ·rw[List.filter_cons_of_pos (by simp),List.filter_cons_of_neg (by simp)]
   congr 1
   apply List.filter_congr
   intro y hy
   have:=hs.1 y hy
   rw[Bool.eq_iff_iff,decide_eq_true_iff,decide_eq_true_iff]
   omega
  ·have:=hs.1 j h
   rw[List.filter_cons_of_neg (by simp;omega),List.filter_cons_of_neg (by simp;omega)]
   exact xH hs.2 h
theorem aLw (hp:Pc L out):lvJ L out (out.toNat+1)=[]:=by
 unfold lvJ
 have:(dH L out).filter (fun i=>decide (out.toNat+1<=i))=[]:=by
  rw[List.filter_eq_nil_iff]
  intro i hi
  have:=aEc hp.ok hp.o1 ((fZ hp.ok hp.o1).1 hi).2
  simp;omega
 rw[this];rfl
theorem aMx (hp:Pc L out){j:Nat}(hj:j < L.length)(h:Lv L out j):lvJ L out j=lvJ L out (j+1)++[(j:Int)]:=by
 unfold lvJ
 rw[xH (kL L out) ((fZ hp.ok hp.o1).2 ⟨hj,h⟩),List.reverse_cons,List.map_append]
 rfl
theorem aO1 (hp:Pc L out){j:Nat}(h:¬Lv L out j):lvJ L out j=lvJ L out (j+1):=by
 unfold lvJ
 congr 2
 apply List.filter_congr
 intro i hi
 have:i≠j:=fun e=>h (e ▸ ((fZ hp.ok hp.o1).1 hi).2)
 rw[Bool.eq_iff_iff,decide_eq_true_iff,decide_eq_true_iff]
 omega
theorem aKy (L:List In)(out:Int):(lvJ L out 0).reverse=xB L out:=by
 unfold lvJ xB
 have:(dH L out).filter (fun i=>decide (0<=i))=dH L out:=by
  rw[List.filter_eq_self];intro i _;simp
 rw[this,<-List.map_reverse,List.reverse_reverse]
theorem aNt (L:List In)(out:Int)(j:Nat):(lvJ L out j).length<=L.length:=by
 unfold lvJ
 rw[List.length_map,List.length_reverse]
 exact Nat.le_trans (List.length_filter_le _ _) (tZ L out)
theorem tN (L:List In)(out:Int):(xB L out).length=(dH L out).length:=by simp[xB]
theorem aI6 (hk:k < (dH L out).length):(xB L out).getD k 0=(((dH L out).getD k 0:Nat):Int):=by
 unfold xB
 rw[List.getD_eq_getElem?_getD,List.getElem?_map,List.getD_eq_getElem?_getD,List.getElem?_eq_getElem hk]
 rfl
def prK (L:List In)(out:Int)(k:Nat):List In:=(nQ L out).take k
theorem Pc.th {L:List In}{out:Int}(h:Pc L out){k:Nat}(hk:k < (dH L out).length):bS (L.getD ((dH L out).getD k 0) i0) (toK (dH L out) L.length (k+1))=(nQ L out).getD k i0:=by
 rw[vJ hk]
 apply aNq
 intro r hr
 obtain⟨r0,r1,r2,r3,r4⟩:=h.reg hk hr
 rw[r2]
 unfold dK
 have hl:=((fZ h.ok h.o1).1 r1).1
 rw[lG,if_neg (by omega),yN (kL L out) (fun j hj=>((fZ h.ok h.o1).1 hj).1) (k+1) (by omega),if_pos ⟨r1,by omega⟩]
theorem aBt (hk:k < (dH L out).length):prK L out (k+1)=prK L out k++[(nQ L out).getD k i0]:=Cde.aM i0 (by rw[gU];exact hk)
theorem aE7 (hk:k<=(dH L out).length):(prK L out k).length=k:=by
 unfold prK;rw[List.length_take,gU];omega
theorem aAe (L:List In)(out:Int):prK L out (dH L out).length=nQ L out:=List.take_of_length_le (by rw[gU];exact Nat.le_refl _)
def rvK (D:List Int):Nat->List Int
 | 0=>D
 | k+1=>((rvK D k).set k ((rvK D k).getD (D.length-1-k) 0)).set (D.length-1-k) ((rvK D k).getD k 0)
theorem uD (D:List Int):∀ k,(rvK D k).length=D.length
 | 0=>rfl
 | k+1=>by rw[rvK,List.length_set,List.length_set,uD D k]
theorem aD1 (D:List Int):∀(k:Nat),2*k<=D.length->∀ p,p < D.length->(rvK D k).getD p 0=if p < k\/D.length<=p+k then D.getD (D.length-1-p) 0 else D.getD p 0
 | 0,_,p,hp=>by rw[if_neg (by omega)];rfl
 | k+1,hk,p,hp=>by
  have ih:=aD1 D k (by omega)
  rw[rvK,iR,iR,List.length_set,uD]
  by_cases h1:p=D.length-1-k
  ·rw[if_pos ⟨h1,by omega⟩,ih k (by omega),if_neg (by omega),if_pos (by omega)]
   congr 1;omega
  ·rw[if_neg (fun hc=>h1 hc.1)]
   by_cases h2:p=k
   ·rw[if_pos ⟨h2,by omega⟩,ih _ (by omega),if_neg (by omega),if_pos (by omega)]
    congr 1;omega
   ·rw[if_neg (fun hc=>h2 hc.1),ih p hp]
    by_cases h3:p < k\/D.length<=p+k
    ·rw[if_pos h3,if_pos (by omega)]
    ·rw[if_neg h3,if_neg (by omega)]
theorem aMl (D:List Int)(h1:2*k<=D.length)(h2:D.length<=2*k+1):rvK D k=D.reverse:=by
 apply List.ext_getElem (by rw[uD,List.length_reverse])
 intro p q1 q2
 have hp:p < D.length:=by rw[uD] at q1;exact q1
 have e:=aD1 D k h1 p hp
 rw[List.getD_eq_getElem?_getD,List.getElem?_eq_getElem q1,Option.getD_some] at e
 have e2:D.getD (D.length-1-p) 0=D[D.length-1-p]:=by rw[List.getD_eq_getElem?_getD,List.getElem?_eq_getElem (by omega),Option.getD_some]
 rw[e,List.getElem_reverse,<-e2]
 split
 ·rfl
 ·congr 1;omega
end Go.Proofs.Prn
