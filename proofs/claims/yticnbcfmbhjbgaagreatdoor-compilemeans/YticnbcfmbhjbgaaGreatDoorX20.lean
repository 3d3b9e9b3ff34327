import Derived.Test.YticnbcfmbhjbgaaGreatDoorX19
import Derived.Test.YticnbcfmbhjbgaaGreatDoorX16
set_option maxRecDepth 100000
set_option maxHeartbeats 32000000
set_option linter.unusedVariables false
namespace Go.Proofs.Vfy
section
open Go.RowKit Go.IntWalk Knd
open Cde (In i0 eF dC bE eH kM eU jK)
variable {d f out:Int} {L:List In} {k:Nat} {n:In}
abbrev eO:=List (Int × Int)
def wX (S:eO)(n:In):eO:=(eF n).map fun r=>S.getD r.toNat (0,0)
def kR (f d:Int)(S:eO)(n:In):(Int × Int) × Int :=
 if n.op=1 then((n.k,n.k),0) else if n.op=2 then((gL f d n.k).getD (0,0),0) else if n.op=3 then((fG f d,cK f d),0) else Spn.ofZ n.op n.k n.s (wX S n)
def sgS (f d:Int)(s:Int × eO)(n:In):Int × eO :=
 if s.1=0 then(if (kR f d s.2 n).2=0 then(0,s.2++[(kR f d s.2 n).1]) else((kR f d s.2 n).2,[])) else s
def iL (f d:Int)(L:List In):Int × eO:=L.foldl (sgS f d) (0,[])
theorem jF (f d:Int)(L:List In)(n:In):iL f d (L++[n])=sgS f d (iL f d L) n:=by simp[iL]
theorem vR (f d:Int):∀(L:List In) (s:Int × eO),s.1≠0->L.foldl (sgS f d) s=s
 | [],s,h=>rfl
 | n::L,s,h=>by
  rw[List.foldl_cons,show sgS f d s n=s by rw[sgS,if_neg h]]
  exact vR f d L s h
theorem aJw (f d:Int)(A B:List In):iL f d (A++B)=B.foldl (sgS f d) (iL f d A):=by rw[iL,List.foldl_append];rfl
theorem aDr {e:Int × eO}(h:iL f d (L.take k)=e)(he:e.1≠0):iL f d L=e:=by
 have:iL f d L=(L.drop k).foldl (sgS f d) (iL f d (L.take k)):=by
  rw[<-aJw,lTd]
 rw[this,h,vR f d _ _ he]
theorem uR (f d:Int)(L:List In):∀ k,k<=L.length->(iL f d (L.take k)).1=0->(iL f d (L.take k)).2.length=k
 | 0,_,_=>by simp[iL]
 | k+1,h,he=>by
  have ih:=uR f d L k (by omega)
  rw[Cde.aG i0 (by omega),jF] at he ⊢
  unfold sgS at he ⊢
  split at he
  ·rename_i h0
   rw[if_pos h0]
   split at he
   ·rename_i h1
    rw[if_pos h1]
    simp[ih h0]
   ·rename_i h1
    exact absurd he h1
  ·rename_i h0
   exact absurd he h0
theorem aJv {S:eO}(h:iL f d L=(0,S)):S.length=L.length:=by
 have:=uR f d L L.length (nLr _)
 rw[lTg,h] at this
 exact this rfl
theorem aEy {S Z:eO}{i:Nat}(h:i < S.length):(S++Z).getD i (0,0)=S.getD i (0,0):=by
 rw[gdE,gAl h,<-gdE]
theorem pK {i:Nat}(h:bE n i=true){r:Int}(hr:r ∈ eF n):0<=r/\r.toNat < i:=by
 obtain⟨j,hj,rfl⟩:=List.getElem_of_mem hr
 rw[Cde.gN] at hj
 have:=Cde.qF h hj
 rw[<-Cde.sH n j hj,gdE,gEg (by rw[Cde.gN];exact hj)] at this
 exact this
theorem aSc {S Z:eO}(h:bE n S.length=true):wX (S++Z) n=wX S n:=by
 unfold wX
 apply List.map_congr_left
 intro r hr
 exact aEy (pK h hr).2
theorem aDs {S Z:eO}(h:bE n S.length=true):kR f d (S++Z) n=kR f d S n:=by
 rw[kR,kR,aSc h]
def pI (f d:Int)(n:In):Bool:=n.op==3&&decide (bX f d<=n.k)
theorem aR0 (hk:k < L.length)(h:(L.take k).any (pI f d)=false)(h2:pI f d (L.getD k i0)=false):(L.take (k+1)).any (pI f d)=false:=by
 rw[Cde.aG i0 hk,List.any_append,h,List.any_cons,h2];rfl
theorem aV3 (hk:k < L.length)(h2:pI f d (L.getD k i0)=true):L.any (pI f d)=true:=by
 rw[List.any_eq_true]
 exact⟨L.getD k i0,Cde.pX i0 hk,h2⟩
def myE (f d:Int)(L:List In)(out:Int):Int:=if kM f d L out=true then(if L.any (pI f d)=true then 11 else 0) else 15
def aW (f d:Int)(L:List In)(out:Int):Int :=
 if myE f d L out≠0 then myE f d L out else if (iL f d L).1≠0 then(iL f d L).1 else if 200 < eU L then 14 else 0
def rM (f d:Int)(L:List In)(out:Int):Nat:=if aW f d L out=0 then L.length else 0
def pJ (f d:Int)(L:List In)(out:Int):Int:=if aW f d L out=0 then eU L else 0
def sD (f d:Int)(L:List In)(out:Int):eO:=if aW f d L out=0 then(iL f d L).2 else[]
theorem xG :myE f d L out=0↔kM f d L out=true/\L.any (pI f d)=false:=by
 unfold myE
 constructor
 ·intro h
  split at h
  ·rename_i h1
   split at h
   ·omega
   ·rename_i h2
    exact⟨h1,by simpa using h2⟩
  ·omega
 ·rintro⟨h1,h2⟩
  rw[if_pos h1,if_neg (by simp[h2])]
theorem aD9 :aW f d L out=0↔myE f d L out=0/\(iL f d L).1=0/\eU L<=200:=by
 unfold aW
 constructor
 ·intro h
  split at h
  ·rename_i h1;exact absurd h h1
  ·rename_i h1
   split at h
   ·rename_i h2;exact absurd h h2
   ·rename_i h2
    split at h
    ·omega
    ·exact⟨by simpa using h1,by simpa using h2,by omega⟩
 ·rintro⟨h1,h2,h3⟩
  rw[if_neg (by simpa using h1),if_neg (by simpa using h2),if_neg (by omega)]
theorem aI (h:aW f d L out=0):kM f d L out=true/\L.any (pI f d)=false/\(∃ S,iL f d L=(0,S)/\S.length=L.length/\sD f d L out=S)/\eU L<=200/\rM f d L out=L.length/\pJ f d L out=eU L:=by
 obtain⟨h1,h2,h3⟩:=aD9.1 h
 obtain⟨h4,h5⟩:=xG.1 h1
 have e:iL f d L=(0,(iL f d L).2):=Prod.ext h2 rfl
 exact⟨h4,h5,⟨_,e,aJv e,by rw[sD,if_pos h]⟩,h3,by rw[rM,if_pos h],by rw[pJ,if_pos h]⟩
theorem aVl (h:aW f d L out≠0):rM f d L out=0/\pJ f d L out=0/\sD f d L out=[]:=by
 refine⟨by rw[rM,if_neg h],by rw[pJ,if_neg h],by rw[sD,if_neg h]⟩
end
section
open Go.RowKit Go.IntWalk Knd
open YticnbcfmbhjbgaaGreatDoor (Wd dQ Fits inpV)
open Cde (In i0 eF dC bE eH kM eU jK cZ tK nA fZ gW)
variable {V:List Int} {d f:Int} {v:Wd} {L:List In}
abbrev w32 (x:Int):Prop:=-2147483648<=x/\x<=2147483647
def tC (V:List Int)(S:eO):Prop:=V.length=S.length/\∀ i,i < S.length->(S.getD i (0,0)).1<=V.getD i 0/\V.getD i 0<=(S.getD i (0,0)).2/\w32 (V.getD i 0)
theorem tC.snoc {S:eO}{x:Int}{p:Int × Int}(h:tC V S)(h1:p.1<=x)(h2:x<=p.2)(h3:w32 x):tC (V++[x]) (S++[p]):=by
 have hl:=h.1
 refine⟨by simp[hl],fun i hi=>?_⟩
 simp only[lLa,lLc,lLn] at hi
 by_cases e:i < S.length
 ·rw[aEy e,Cde.dJ (by omega)]
  exact h.2 i e
 ·have e2:i=S.length:=by omega
  subst e2
  rw[show (S++[p]).getD S.length (0,0)=p by simp[List.getD_eq_getElem?_getD],show (V++[x]).getD S.length 0=x by rw[<-hl];simp[List.getD_eq_getElem?_getD]]
  exact⟨h1,h2,h3⟩
theorem tC.ins {V:List Int}{S:eO}(h:tC V S):∀(P:List Int),(∀ p ∈ P,p.toNat < S.length)->Spn.Ins (P.map fun p=>V.getD p.toNat 0) (P.map fun p=>S.getD p.toNat (0,0))
 | [],_=>trivial
 | p::P,hp=>by
  obtain⟨h1,h2,-⟩:=h.2 p.toNat (hp p (by simp))
  exact⟨⟨h1,h2⟩,tC.ins h P fun q hq=>hp q (by simp[hq])⟩
theorem jN (f d:Int):w32 (fG f d)/\w32 (cK f d)/\w32 (bL f d):=by
 rcases lI f d with⟨hm,rfl⟩|⟨hm,rfl⟩|hm
 ·have:=mJ (d-1) (by have:=hm.2.2;omega)
  obtain⟨a,b,c,-⟩:=zs0 hm
  rw[a,b,c];unfold w32;omega
 ·have:=mJ (d-1) (by have:=hm.2.2;omega)
  obtain⟨a,b,c,-⟩:=zs1 hm
  rw[a,b,c];unfold w32;omega
 ·obtain⟨a,b,c,-⟩:=zs2 hm
  rw[a,b,c];unfold w32;omega
theorem xN {op k s x:Int}{xs:List Int}(h:Spn.bK op k s xs=(x,0)):w32 x:=by
 unfold Spn.bK at h
 split at h
 ·split at h
  ·split at h
   ·rename_i hw
    cases h
    exact Spn.bY.1 hw
   ·cases h
  ·rename_i h1
   exact absurd (congrArg Prod.snd h) h1
 ·cases h
theorem aCf (f:Int):nZ f<=2147483647/\oK f<=2147483647:=by
 unfold nZ oK
 constructor <;> (repeat' split) <;> omega
theorem aHg {k:Int}(hm:May f d)(hF:Fits f d v)(h0:0<=k)(h5:k<=5):((gL f d k).getD (0,0)).1<=inpV f d v k/\inpV f d v k<=((gL f d k).getD (0,0)).2/\w32 (inpV f d v k):=by
 obtain⟨⟨⟨⟨a1,a2,e1,g1,g2⟩,⟨b1,b2,e2,g3,g4⟩⟩,⟨c1,c2,e3,g5,g6⟩⟩,-⟩:=hF
 obtain⟨w1,w2,w3⟩:=jN f d
 have hcr:=aCf f
 rcases(show k=0\/k=1\/k=2\/k=3\/k=4\/k=5 by omega) with rfl|rfl|rfl|rfl|rfl|rfl
 ·rw[e1]
  have e:gL f d 0=some (0,nZ f-1):=by unfold gL;rw[if_neg (by simpa using hm)];rfl
  rw[e] at e1
  cases e1
  exact⟨g1,g2,by show w32 v.x;unfold w32;omega⟩
 ·rw[e2]
  have e:gL f d 1=some (0,oK f-1):=by unfold gL;rw[if_neg (by simpa using hm)];rfl
  rw[e] at e2
  cases e2
  exact⟨g3,g4,by show w32 v.y;unfold w32;omega⟩
 ·rw[e3]
  have e:gL f d 2=some (0,3):=by unfold gL;rw[if_neg (by simpa using hm)];rfl
  rw[e] at e3
  cases e3
  exact⟨g5,g6,by show w32 v.c;unfold w32;omega⟩
 ·have e:gL f d 3=some (fG f d,fG f d):=by unfold gL;rw[if_neg (by simpa using hm)];rfl
  rw[e];exact⟨iLr _,iLr _,w1⟩
 ·have e:gL f d 4=some (cK f d,cK f d):=by unfold gL;rw[if_neg (by simpa using hm)];rfl
  rw[e];exact⟨iLr _,iLr _,w2⟩
 ·have e:gL f d 5=some (bL f d,bL f d):=by unfold gL;rw[if_neg (by simpa using hm)];rfl
  rw[e];exact⟨iLr _,iLr _,w3⟩
theorem aRj {S:eO}{n:In}(hm:May f d)(hF:Fits f d v)(hI:tC V S)(ho:bE n S.length=true)(ha:pI f d n=false)(h:(kR f d S n).2=0) :
  (cZ f d v V n).2=0/\(kR f d S n).1.1<=(cZ f d v V n).1/\(cZ f d v V n).1<=(kR f d S n).1.2/\w32 (cZ f d v V n).1:=by
 have hc:=Cde.qE ho
 unfold cZ
 unfold kR at h ⊢
 by_cases h1:n.op=1
 ·rw[if_pos h1] at h ⊢
  rw[if_pos h1]
  rw[Cde.nE,if_pos h1,bAt,Spn.bY] at hc
  exact⟨rfl,iLr _,iLr _,hc.1⟩
 rw[if_neg h1] at h ⊢
 rw[if_neg h1]
 by_cases h2:n.op=2
 ·rw[if_pos h2] at h ⊢
  rw[if_pos h2]
  rw[Cde.nE,if_neg h1,if_pos h2,bAt,Spn.aK] at hc
  exact⟨rfl,aHg hm hF hc.1.1 hc.1.2⟩
 rw[if_neg h2] at h ⊢
 rw[if_neg h2]
 by_cases h3:n.op=3
 ·rw[if_pos h3] at h ⊢
  rw[if_pos h3]
  rw[Cde.nE,if_neg h1,if_neg h2,if_pos h3,bAt,Spn.aK] at hc
  have hk:¬bX f d<=n.k:=by
   intro hk
   have:pI f d n=true:=by unfold pI;rw[h3];simpa using hk
   rw[this] at ha;cases ha
  rw[if_neg hk]
  have hfl:=Cde.aCn hF
  have hl:n.k.toNat < v.ps.length:=by omega
  have hmem:=hF.2.2 (v.ps.getD n.k.toNat 0) (Cde.pX 0 hl)
  obtain⟨w1,w2,-⟩:=jN f d
  exact⟨rfl,hmem.1,hmem.2,by unfold w32 at *;dsimp only;omega⟩
 rw[if_neg h3] at h ⊢
 rw[if_neg h3]
 obtain⟨x,h5,h6,h7⟩:=Spn.vC (Prod.ext rfl h:Spn.ofZ n.op n.k n.s (wX S n)=((_,_),0)) (hI.ins (eF n) fun p hp=>(pK ho hp).2)
 have e:Spn.bK n.op n.k n.s (gW V n)=(x,0):=h5
 rw[e]
 exact⟨rfl,h6,h7,xN h5⟩
theorem eZ (h:L.any (pI f d)=false){k:Nat}(hk:k < L.length):pI f d (L.getD k i0)=false:=by
 cases hb:pI f d (L.getD k i0)
 ·rfl
 ·rw[aV3 hk hb] at h;cases h
theorem qO {f d:Int}{v:Wd}{L:List In}(hm:May f d)(hF:Fits f d v)(hok:eH L L.length=true)(ha:L.any (pI f d)=false)(h0:(iL f d L).1=0) :
  ∀ k,k<=L.length->∃ V S,nA f d v (L.take k)=(0,V)/\iL f d (L.take k)=(0,S)/\tC V S
 | 0,_=>⟨[],[],rfl,rfl,rfl,fun i hi=>by simp at hi⟩
 | k+1,hk=>by
  obtain⟨V,S,h1,h2,h3⟩:=qO hm hF hok ha h0 k (by omega)
  have hl:S.length=k:=by
   have:=uR f d L k (by omega)
   rw[h2] at this
   exact this rfl
  have ho:=Cde.dE hok (show k < L.length by omega)
  rw[<-hl] at ho
  have hz:(kR f d S (L.getD k i0)).2=0:=by
   by_cases hz:(kR f d S (L.getD k i0)).2=0
   ·exact hz
   ·have e:iL f d (L.take (k+1))=((kR f d S (L.getD k i0)).2,[]):=by
     rw[Cde.aG i0 (by omega),jF,h2,sgS,if_pos rfl,if_neg hz]
    have:=aDr e hz
    rw[this] at h0
    exact absurd h0 hz
  rw[hl] at ho
  obtain⟨a,b,c,e⟩:=aRj hm hF h3 (by rw[hl];exact ho) (eZ ha (by omega)) hz
  refine⟨V++[(cZ f d v V (L.getD k i0)).1],S++[(kR f d S (L.getD k i0)).1],?_,?_,h3.snoc b c e⟩
  ·rw[Cde.aG i0 (by omega),Cde.dZ,h1,tK,if_pos rfl,if_pos a]
  ·rw[Cde.aG i0 (by omega),jF,h2,sgS,if_pos rfl,if_pos hz]
theorem aNd {n:In}{i:Nat}(h:bE n i=true):1<=jK n.op:=by
 have h4:n.op≠4:=by
  intro e
  have:=Cde.aBn h
  rw[e] at this
  exact absurd this (by decide)
 unfold jK
 rw[if_neg h4]
 repeat' split
 all_goals omega
theorem aV9 {L:List In}(hok:eH L L.length=true):∀ k:Nat,k<=L.length->(k:Int)<=eU (L.take k)
 | 0,_=>by simp[eU]
 | k+1,hk=>by
  have ih:=aV9 hok k (by omega)
  have:=aNd (Cde.dE hok (show k < L.length by omega))
  rw[Cde.aG i0 (by omega),Cde.gG]
  omega
theorem qN {out:Int}(h:aW f d L out=0):(L.length:Int)<=eU L/\eU L<=200/\∀ v:Wd,Fits f d v->∃ V,fZ f d v L out=(0,V)/\tC V (sD f d L out):=by
 obtain⟨m,ha,⟨S,hS,hl,hs⟩,hc,-,-⟩:=aI h
 obtain⟨hm,-,-,-,-,hok⟩:=Cde.aQ m
 refine⟨?_,hc,fun v hF=>?_⟩
 ·have:=aV9 hok L.length (nLr _)
  rwa[lTg] at this
 ·obtain⟨V,S',h1,h2,h3⟩:=qO hm hF hok ha (by rw[hS]) L.length (nLr _)
  rw[lTg] at h1 h2
  rw[hS] at h2
  cases h2
  refine⟨V,?_,by rw[hs];exact h3⟩
  rw[fZ,if_pos m,if_pos hF]
  exact h1
theorem jY {out:Int}(h:aW f d L out=0)(hF:¬Fits f d v):fZ f d v L out=(1,[]):=by
 obtain⟨m,-⟩:=aI h
 rw[fZ,if_pos m,if_neg hF]
end
section
open Go.RowKit Go.IntWalk Knd
variable {W w:World} {b g k r:Nat} {t:TypeId} {cs:Array Value} {p q:Value}
open YticnbcfmbhjbgaaGreatDoor (aB)
abbrev jJ:Array Value:=#[.slice none 0 0,.i 0,.i 0]
abbrev oP (L:eO):Array Value:=(Spn.mX L).toArray
theorem jV (L:eO)(i:Nat)(h:i < L.length):(oP L)[i*2]?=some (.i (L.getD i (0,0)).1)/\(oP L)[i*2+1]?=some (.i (L.getD i (0,0)).2):=by
 unfold oP
 rw[List.getElem?_toArray,List.getElem?_toArray]
 exact Spn.aAe L i h
theorem aTu (n:Nat):madeCells #[.i 0,.i 0] (n*2)=oP (List.replicate n (0,0)):=by
 apply Array.ext_getElem?
 intro i
 by_cases hi:i < n*2
 ·have h1:(madeCells #[.i 0,.i 0] (n*2))[i]?=some (.i 0):=by
   unfold madeCells
   rw[Array.getElem?_map,Array.getElem?_eq_getElem (by simpa using hi)]
   simp only[Array.getElem_range,Option.map_some]
   rcases(show i % 2=0\/i % 2=1 by omega) with h|h <;> (show some ((#[Value.int .i64 0,.i 0])[i % 2]!)=_;rw[h];rfl)
  rw[h1]
  obtain⟨a,b⟩:=jV (List.replicate n (0,0)) (i / 2) (by simp;omega)
  have hz:(List.replicate n ((0:Int),(0:Int))).getD (i / 2) (0,0)=(0,0):=by
   rw[gdE,List.getElem?_replicate];split <;> rfl
  rw[hz] at a b
  rcases(show i % 2=0\/i % 2=1 by omega) with h|h
  ·rw[show i=i / 2*2 by omega];exact a.symm
  ·rw[show i=i / 2*2+1 by omega];exact b.symm
 ·rw[Array.getElem?_eq_none (by rw[size_madeCells];omega),Array.getElem?_eq_none (by simp[Spn.nR];omega)]
theorem aC5 (n:Nat)(h:n<=1024)(w:World):(Instr.makeSlice 53 (.i n) (.i n)).run Tryz.prog w=.ok (.slice (some ⟨w.heap.size,0,none⟩) n n) (w.alloc (.cells (oP (List.replicate n (0,0))) 165)):=by
 obtain⟨i0,hi,hz0,hz1,hz2⟩:=Spn.info_parts Spn.aOb
 have:=run_make w 53 165 i0 _ Tryz.underlying53 hi hz0 .i64 .i64 n n (by omega) (iLr _) (by rw[hz2];omega) (by omega)
 rw[hz1] at this
 simp only[iTn] at this
 have e:madeCells (Value.agg #[.i 0,.i 0]).cells (n*2)=oP (List.replicate n (0,0)):=aTu n
 rw[e] at this
 exact this
theorem aHz (S Z:eO)(p q:Int × Int):((oP (S++q::Z)).setIfInBounds (S.length*2) (.i p.1)).setIfInBounds (S.length*2+1) (.i p.2)=oP (S++p::Z):=by
 apply Array.toList_inj.1
 simp only[Array.toList_setIfInBounds]
 have e:∀ r:Int × Int,Spn.mX (S++r::Z)=Spn.mX S++(.i r.1::.i r.2::Spn.mX Z):=fun r=>by simp[Spn.mX]
 rw[e,e,List.set_append_right _ _ (by rw[Spn.nR];omega),List.set_append_right _ _ (by rw[Spn.nR];omega),Spn.nR]
 simp
theorem rH {L:eO}(h:aB W g 165 (oP L))(hl:L.length<=1024):Spn.Spans W (some ⟨g,0,none⟩) L.length L.length L:=by
 refine⟨rfl,nLr _,by unfold maxLen;omega,(fun e=>by cases e),.inr ⟨g,0,rfl,fun i hi=>?_⟩⟩
 obtain⟨a,b⟩:=jV L i hi
 rw[nZa]
 exact⟨h.cell (i*2) a,h.cell (i*2+1) b⟩
theorem aDk {S Z:eO}{q:Int × Int}(h:aB W g 165 (oP (S++q::Z)))(hk:S.length=k)(x y:Int):aB ((W.setCell ⟨g,k*2,none⟩ (.i x)).setCell ⟨g,k*2+1,none⟩ (.i y)) g 165 (oP (S++(x,y)::Z)):=by
 subst hk
 have:=(h.set (S.length*2) (.i x)).set (S.length*2+1) (.i y)
 rwa[show ((oP (S++q::Z)).setIfInBounds (S.length*2) (.i x)).setIfInBounds (S.length*2+1) (.i y)=oP (S++(x,y)::Z) from aHz S Z (x,y) q] at this
theorem zX {n:Nat}(h:k < n):List.replicate (n-k) ((0:Int),(0:Int))=(0,0)::List.replicate (n-(k+1)) (0,0):=by
 rw[show n-k=(n-(k+1))+1 by omega,List.replicate_succ]
theorem aBp (h:aB W b t cs)(hr:b≠r)(x y:Value):aB ((W.setCell ⟨r,k*2,none⟩ x).setCell ⟨r,k*2+1,none⟩ y) b t cs:=(h.other (p:=⟨r,k*2,none⟩) hr x).other (p:=⟨r,k*2+1,none⟩) hr y
theorem aP {x y:Value}(h:aB W b t #[x,y]):W.cell? ⟨b,0,none⟩=some x/\W.cell? ⟨b,1,none⟩=some y/\W.frozen? ⟨b,0,none⟩=false/\W.frozen? ⟨b,1,none⟩=false :=
 ⟨h.cell 0 rfl,h.cell 1 rfl,h.frozen 0,h.frozen 1⟩
theorem oI {w2:World}(h:aB w2 b t #[p,q])(hB:Below w.heap.size w w2)(hb:w.heap.size<=b)(x y:Int) :
  ((w2.setCell ⟨b,0,none⟩ (.i x)).setCell ⟨b,1,none⟩ (.i y)).cell? ⟨b,0,none⟩=some (.i x)/\((w2.setCell ⟨b,0,none⟩ (.i x)).setCell ⟨b,1,none⟩ (.i y)).cell? ⟨b,1,none⟩=some (.i y) /\
  Below w.heap.size w ((w2.setCell ⟨b,0,none⟩ (.i x)).setCell ⟨b,1,none⟩ (.i y)) :=
 Spn.aS h hB hb x y
theorem aPp (h:aB W b t cs)(hr:b≠r)(x y:Value):aB ((W.setCell ⟨r,0,none⟩ x).setCell ⟨r,1,none⟩ y) b t cs:=(h.other (p:=⟨r,0,none⟩) hr x).other (p:=⟨r,1,none⟩) hr y
theorem set2 (h:aB W b t #[p,q])(x y:Value):aB ((W.setCell ⟨b,0,none⟩ x).setCell ⟨b,1,none⟩ y) b t #[x,y]:=(h.set 0 x).set 1 y
theorem iJ {x y z:Value}(h:aB W b t #[x,y,z]):W.cell? ⟨b,0,none⟩=some x/\W.cell? ⟨b,1,none⟩=some y/\W.cell? ⟨b,2,none⟩=some z/\W.frozen? ⟨b,0,none⟩=false/\W.frozen? ⟨b,1,none⟩=false/\W.frozen? ⟨b,2,none⟩=false :=
 ⟨h.cell 0 rfl,h.cell 1 rfl,h.cell 2 rfl,h.frozen 0,h.frozen 1,h.frozen 2⟩
theorem fQ {w2:World}{r:Value}(h:aB w2 b t #[p,q,r])(hB:Below w.heap.size w w2)(hb:w.heap.size<=b)(x y z:Value) :
  aB (((w2.setCell ⟨b,0,none⟩ x).setCell ⟨b,1,none⟩ y).setCell ⟨b,2,none⟩ z) b t #[x,y,z] /\
  Below w.heap.size w (((w2.setCell ⟨b,0,none⟩ x).setCell ⟨b,1,none⟩ y).setCell ⟨b,2,none⟩ z) :=
 ⟨((h.set 0 x).set 1 y).set 2 z,((hB.setCell (p:=⟨b,0,none⟩) hb _).setCell (p:=⟨b,1,none⟩) hb _).setCell (p:=⟨b,2,none⟩) hb _⟩
theorem qG (h:aB W b t cs)(hr:b≠r)(x y z:Value):aB (((W.setCell ⟨r,0,none⟩ x).setCell ⟨r,1,none⟩ y).setCell ⟨r,2,none⟩ z) b t cs :=
 ((h.other (p:=⟨r,0,none⟩) hr x).other (p:=⟨r,1,none⟩) hr y).other (p:=⟨r,2,none⟩) hr z
theorem aH3 (W:World):Spn.Spans W none 0 0 []:=⟨rfl,nLr _,by unfold maxLen;omega,fun _=>rfl,.inl rfl⟩
def Own (z n:Nat)(a:Option Addr)(V:World):Prop:=n=0\/∃ g cs,a=some ⟨g,0,none⟩/\z<=g/\aB V g 165 cs/\cs.size=2*n
def RpP (own:Bool)(w:World)(n:Nat)(co er:Int)(S:eO)(e:Ending)(W':World):Prop :=
 ∃ a cap,e=.returned (.tuple #[.agg #[.slice a n cap,.i co,.i 0],.i er])/\Spn.Spans W' a n cap S/\Below w.heap.size w W'/\(∀ b off,a=some ⟨b,off,none⟩->w.heap.size<=b)/\(own=true->Own w.heap.size n a W')
theorem RpP.no {own:Bool}{W':World}{er:Int}(hb:Below w.heap.size w W'):RpP own w 0 0 er [] (.returned (.tuple #[.agg jJ,.i er])) W' :=
 ⟨none,0,rfl,aH3 _,hb,fun b off h=>by simp at h,fun _=>.inl rfl⟩
theorem RpP.row {W':World}{S:eO}{n:Nat}{co:Int}(hg:aB W' g 165 (oP S))(hn:S.length=n)(h0:w.heap.size<=g)(hl:n<=1024)(hb:Below w.heap.size w W'):RpP true w n co 0 S (.returned (.tuple #[.agg #[.slice (some ⟨g,0,none⟩) n n,.i co,.i 0],.i 0])) W':=by
 subst hn
 exact⟨_,_,rfl,rH hg hl,hb,fun b off h=>by cases h;exact h0,fun _=>.inr ⟨g,_,rfl,h0,hg,by simp[Spn.nR];omega⟩⟩
end
section
open Go.RowKit Go.IntWalk Knd
open Cde (In i0 ia kd eF dC bE zA abc sI aH aJ)
open YticnbcfmbhjbgaaGreatDoor (aB)
theorem aIm (S:eO)(n:In):(wX S n).length=dC n:=by rw[wX,List.length_map,Cde.gN]
theorem aMx {S:eO}{n:In}{k:Nat}(hk:k < dC n):(wX S n).take (k+1)=(wX S n).take k++[S.getD (Cde.mV n k).toNat (0,0)]:=by
 rw[Cde.aG (0,0) (by rw[aIm];exact hk),<-Cde.sH n k hk]
 congr 2
 simp[wX,List.getD_eq_getElem?_getD,List.getElem?_map,List.getElem?_eq_getElem (show k < (eF n).length by rw[Cde.gN];exact hk)]
theorem bCa (f d:Int)(n:In)(a:Option Addr)(sl sc:Nat)(h:n.op=1\/n.op=2\/n.op=3)(S:eO)(W:World) :
  Calls Tryz.prog 133 #[.agg (kd f d),.agg (ia n),.slice a sl sc] W fun e W'=>e=.returned (Spn.spV (kR f d S n))/\Below W.heap.size W W':=by
 obtain⟨o,pa,pb,pc,pk,ps⟩:=n
 simp only at h
 have hb1:=aD W (.cells (kd f d) 23)
 have hb2:=bel hb1 (aD (W.alloc (.cells (kd f d) 23)) (.cells (ia ⟨o,pa,pb,pc,pk,ps⟩) 132))
 have hb3:=bel hb2 (aD ((W.alloc (.cells (kd f d) 23)).alloc (.cells (ia ⟨o,pa,pb,pc,pk,ps⟩) 132)) (.cells #[.i 0,.i 0] 165))
 have HB0:=aA hb3
 have HBk:=aA hb2
 have HK0:=aA (((aB.new W 23 (kd f d)).alloc (.cells (ia ⟨o,pa,pb,pc,pk,ps⟩) 132)).alloc (.cells #[.i 0,.i 0] 165))
 have HR0:Hid (aB (((W.alloc (.cells (kd f d) 23)).alloc (.cells (ia ⟨o,pa,pb,pc,pk,ps⟩) 132)).alloc (.cells #[.i 0,.i 0] 165)) (W.heap.size+1+1) 165 #[.i 0,.i 0]):=by
  have:=aB.new ((W.alloc (.cells (kd f d) 23)).alloc (.cells (ia ⟨o,pa,pb,pc,pk,ps⟩) 132)) 165 #[.i 0,.i 0]
  simp only[wSa] at this
  exact aA this
 clear hb1 hb2 hb3
 rcases h with rfl|rfl|rfl
 ·rw[show kR f d S ⟨1,pa,pb,pc,pk,ps⟩=((pk,pk),0) from rfl]
  go_enter Tryz.func133,Tryz.ntmps133
  go_wp2
  exact bPr (v:=.tuple #[.agg #[.i pk,.i pk],.i 0]) (by simp[results,Tryz.results133,go_sem]) rfl ⟨rfl,bel HBk.o (aD _ _)⟩
 ·rw[show kR f d S ⟨2,pa,pb,pc,pk,ps⟩=((gL f d pk).getD (0,0),0) from rfl]
  have HI:=aA fun w=>gQ f d pk w
  unfold wF at HI
  obtain⟨⟨lo,hi⟩,hp⟩:∃ p,(gL f d pk).getD (0,0)=p:=⟨_,rfl⟩
  rw[hp] at HI ⊢
  generalize (gL f d pk).isSome=q at HI
  clear hp
  go_enter Tryz.func133,Tryz.ntmps133
  go_wp2_with fail
  refine(HI.o _).mono ?_
  rintro e V1 ⟨rfl,hb⟩
  have HB1:=aA (bel HB0.o hb)
  have hz:=(HR0.o.below hb).lt
  obtain⟨-,-,hB⟩:=oI (HR0.o.below hb) HB1.o (by omega) lo hi
  have h3:=(set2 (HR0.o.below hb) (.i lo) (.i hi)).alloc (.cells #[.i lo,.i hi] 165)
  have r0:=h3.cell 0 rfl
  have r1:=h3.cell 1 rfl
  have HB2:=aA (bel hB (aD _ (.cells #[.i lo,.i hi] 165)))
  have HR2:=aA r0
  have HR3:=aA r1
  clear r0 r1 h3 hB
  obtain⟨c0,c1,c2,c3⟩:=aP (HR0.o.below hb)
  clear hb
  go_wp2_with fail
  have r0:=HR2.o
  have r1:=HR3.o
  exact bPr (v:=.tuple #[.agg #[.i lo,.i hi],.i 0]) (by simp only[results,Tryz.results133];simp[go_sem,r0,r1]) rfl ⟨rfl,HB2.o⟩
 ·rw[show kR f d S ⟨3,pa,pb,pc,pk,ps⟩=((fG f d,cK f d),0) from rfl]
  have HLo:=aA fun w=>mH f d w
  have HHi:=aA fun w=>jW f d w
  generalize fG f d=lo at *
  generalize cK f d=hi at *
  have x0:=HK0.o.cell 0 rfl
  have y0:=HK0.o.cell 1 rfl
  go_enter Tryz.func133,Tryz.ntmps133
  go_wp2_with fail
  obtain⟨W0,hW0⟩:∃ W0,(((W.alloc (.cells (kd f d) 23)).alloc (.cells (ia ⟨3,pa,pb,pc,pk,ps⟩) 132)).alloc (.cells #[.i 0,.i 0] 165))=W0:=⟨_,rfl⟩
  rw[hW0] at HR0 HK0 HB0 x0 y0 ⊢
  clear hW0
  have HRd:Hid (aB W0.drew (W.heap.size+1+1) 165 #[.i 0,.i 0]):=HR0.o
  have HKd:Hid (aB W0.drew W.heap.size 23 (kd f d)):=HK0.o
  have HBd:=aA HB0.o.drew
  go_region_held3 (fun w'=>w'.cell? ⟨W.heap.size,0,none⟩=some (.i f)/\w'.cell? ⟨W.heap.size,1,none⟩=some (.i d))
   (first|exact⟨x0,y0⟩|exact⟨x3,y3⟩|exact⟨x4,y4⟩|exact⟨(aPp HK4.o (by omega) _ _).cell 0 rfl,(aPp HK4.o (by omega) _ _).cell 1 rfl⟩|go_keep)
   ((first
    | (go_at_call 189;refine(HLo.o _).mono ?_;rintro e w3 ⟨rfl,hb3⟩;have HR3:=aA (HRd.o.below hb3);have HK3:=aA (HKd.o.below hb3);have HB3:=aA (bel HBd.o hb3);clear hb3;obtain⟨x3,y3,-,-⟩:=aP HK3.o)
    | (go_at_call 190;refine(HHi.o _).mono ?_;rintro e w4 ⟨rfl,hb4⟩;have HR4:=aA (HR3.o.below hb4);have HK4:=aA (HK3.o.below hb4);have HB4:=aA (bel HB3.o hb4);clear hb4;obtain⟨x4,y4,-,-⟩:=aP HK4.o;obtain⟨g0,g1,g2,g3⟩:=aP HR4.o)))
  all_goals
   obtain⟨r0,r1,hB⟩:=oI HR4.o HB4.o (by omega) lo hi
   go_wp2
   exact bPr (v:=.tuple #[.agg #[.i lo,.i hi],.i 0]) (by simp[results,Tryz.results133,go_sem,r0,r1]) rfl ⟨rfl,hB⟩
theorem yin (f d:Int)(n:In){i sl sc:Nat}{a:Option Addr}{S:eO}{W:World}(ho:bE n i=true)(h1:n.op≠1)(h2:n.op≠2)(h3:n.op≠3)(hS:Spn.Spans W a sl sc S)(hi:i<=sl) :
  Calls Tryz.prog 133 #[.agg (kd f d),.agg (ia n),.slice a sl sc] W fun e W'=>e=.returned (Spn.spV (kR f d S n))/\Below W.heap.size W W':=by
 have hsl:sl<=9223372036854775807:=by have:=hS.le;have:=hS.max;unfold maxLen at *;omega
 rw[show kR f d S n=Spn.ofZ n.op n.k n.s (wX S n) by unfold kR;rw[if_neg h1,if_neg h2,if_neg h3]]
 have HRg:=aA fun j hj=>Cde.qF ho (j:=j) hj
 have HSg:=aA fun j hj=>aMx (S:=S) (n:=n) (k:=j) hj
 have HA3:=aA (Cde.kX n)
 have HAb:=aA fun j (h:j < 3)=>Cde.xO n j h
 have HLl:=aA (aIm S n)
 have HPO:=aA fun w=>Cde.xW n w
 have q1:(n.op==1)=false:=by simpa using h1
 have q2:(n.op==2)=false:=by simpa using h2
 have q3:(n.op==3)=false:=by simpa using h3
 generalize wX S n=L at *
 generalize dC n=k at *
 have hb1:=aD W (.cells (kd f d) 23)
 have hb2:=bel hb1 (aD (W.alloc (.cells (kd f d) 23)) (.cells (ia n) 132))
 have hb3:=bel hb2 (aD ((W.alloc (.cells (kd f d) 23)).alloc (.cells (ia n) 132)) (.cells #[.i 0,.i 0] 165))
 have HB0:=aA hb3
 have HN0:Hid (aB (((W.alloc (.cells (kd f d) 23)).alloc (.cells (ia n) 132)).alloc (.cells #[.i 0,.i 0] 165)) (W.heap.size+1) 132 (ia n)):=by
  have:=(aB.new (W.alloc (.cells (kd f d) 23)) 132 (ia n)).alloc (.cells #[.i 0,.i 0] 165)
  simp only[wSa] at this
  exact aA this
 have HR0:Hid (aB (((W.alloc (.cells (kd f d) 23)).alloc (.cells (ia n) 132)).alloc (.cells #[.i 0,.i 0] 165)) (W.heap.size+1+1) 165 #[.i 0,.i 0]):=by
  have:=aB.new ((W.alloc (.cells (kd f d) 23)).alloc (.cells (ia n) 132)) 165 #[.i 0,.i 0]
  simp only[wSa] at this
  exact aA this
 have HS0:=aA (hS.later hb3)
 clear hb1 hb2 hb3 hS ho h1 h2 h3
 go_enter Tryz.func133,Tryz.ntmps133
 go_wp2_with fail
 refine(HPO.o _).mono ?_
 rintro e V1 ⟨g,rfl,-,hG,hb⟩
 have HG:=aA hG
 have HR1:=aA (HR0.o.below hb)
 have HN1:=aA (HN0.o.below hb)
 have HB1:=aA (bel HB0.o hb)
 have HS1:=aA (HS0.o.later hb)
 have hgl:=hG.lt
 clear hG hb HR0 HN0 HB0 HS0 HPO
 go_wp2_with fail
 go_loopw [10,42] (fun v i wr=>∃ j:Nat,j<=k/\i=.i j/\Hid (Spn.Es V1 wr v j (L.take j))) (fun _ i _=>k-(intOf i).toNat)
 case atStart=>exact⟨0,nZl _,rfl,aA (Spn.Es.start V1)⟩
 case round =>
  obtain⟨j,hj,rfl,HE⟩:=hrel
  rename World=>V
  by_cases hlt:j < k
  ·have h33:j < 3:=by have:=HA3.o;omega
   have cp:=(HG.o.below HE.o.bel).cell j (Cde.gZ (abc n) j (by simp[abc];omega))
   rw[HAb.o j h33] at cp
   obtain⟨p0,p1⟩:=HRg.o j hlt
   have HT:=aA (HSg.o j hlt)
   obtain⟨q,hq⟩:∃ q:Nat,Cde.mV n j=(q:Int):=⟨(Cde.mV n j).toNat,by omega⟩
   rw[hq] at cp p1 HT
   simp only[iTn] at p1 HT
   obtain⟨b,off,rfl,-,hcs⟩:=(HS1.o.later HE.o.bel).at (by omega)
   obtain⟨s0,s1⟩:=hcs q (by omega)
   generalize S.getD q (0,0)=sv at *
   obtain⟨lo,hi2⟩:=sv
   simp only at s0 s1
   have j0:(0:Int)<=j:=by omega
   have j1:(j:Int) < k:=by omega
   have j2:(j:Int) < 3:=by omega
   have i0:(0:Int)<=q:=by omega
   have i1:(q:Int) < sl:=by omega
   clear hcs p0 p1 hq
   go_wp2_with (at_builtin;refine Spn.aBf (w:=V1) (L:=L.take j) rfl _ _ rfl rfl (HE.o.alloc _) _ lo hi2 rfl (Spn.aB.new _ _ _) (by omega) ?_;intro g2 cap2 w2 HE2 hsz)
   go_roundw
   case rel=>exact⟨j+1,by omega,by go_num,aA (by rw[HT.o];exact HE2)⟩
   case measure=>simp[intOf];omega
  ·obtain rfl:j=k:=by omega
   have e:L.take j=L:=lTl (by rw[HLl.o];exact nLr _)
   have HE1:=HE.o
   rw[e] at HE1
   obtain⟨va,vc,rfl,hA⟩:=Spn.Spans.of_owns HE1.a HLl.o
   have HOf:=aA (Spn.aPh n.op n.k n.s _ _ _ _ _ hA)
   have HR2:=aA (HR1.o.below HE1.bel)
   have HB2:=aA (bel HB1.o HE1.bel)
   obtain⟨x0,-,-,-,x4,x5⟩:=aH (HN1.o.below HE1.bel)
   obtain⟨⟨⟨lo,hi2⟩,er⟩,hZ⟩:∃ Z,Spn.ofZ n.op n.k n.s L=Z:=⟨_,rfl⟩
   rw[hZ] at HOf
   have HZ:=aA hZ
   clear hZ hA e HE HE1
   go_wp2_with fail
   refine HOf.o.mono ?_
   rintro e V2 ⟨rfl,hb⟩
   have HR3:=aA (HR2.o.below hb)
   have HB3:=aA (bel HB2.o hb)
   obtain⟨g0,g1,g2,g3⟩:=aP HR3.o
   clear hb
   go_wp2_with fail
   obtain⟨r0,r1,hB⟩:=oI HR3.o HB3.o (by omega) lo hi2
   exact bPr (v:=.tuple #[.agg #[.i lo,.i hi2],.i er]) (by simp[results,Tryz.results133,go_sem,r0,r1]) rfl ⟨by rw[HZ.o],hB⟩
theorem aMe (f d:Int){n:In}{i sl sc:Nat}{a:Option Addr}{S:eO}{W:World}(ho:bE n i=true)(hS:Spn.Spans W a sl sc S)(hi:i<=sl) :
  Calls Tryz.prog 133 #[.agg (kd f d),.agg (ia n),.slice a sl sc] W fun e W'=>e=.returned (Spn.spV (kR f d S n))/\Below W.heap.size W W':=by
 by_cases h:n.op=1\/n.op=2\/n.op=3
 ·exact bCa f d n a sl sc h S W
 ·exact yin f d n ho (by omega) (by omega) (by omega) hS hi
end
section
open Go.RowKit Go.IntWalk Knd
open Cde (In i0 ia kd cd Ins eF dC bE eH kM eU aH aC aJ aG)
open YticnbcfmbhjbgaaGreatDoor (aB)
variable {a:Option Addr} {cap n:Nat} {L:List In} {W:World} {d f out:Int}
def ahE (b:Bool):Int:=if b=true then 11 else 0
theorem aO7 (f d:Int)(L:List In)(out:Int):(kM f d L out=true/\myE f d L out=ahE (L.any (pI f d)))\/(¬kM f d L out=true/\myE f d L out=15):=by
 unfold myE ahE
 by_cases h:kM f d L out=true
 ·exact .inl ⟨h,if_pos h⟩
 ·exact .inr ⟨h,if_neg h⟩
theorem aWj {x y:Int}(h:x=y):Ending.returned (.i x)=.returned (.i y):=by rw[h]
theorem aRu (f d out:Int)(hL:Ins W a n cap L) :
  Calls Tryz.prog 68 #[.agg (cd f d a n cap out)] W fun e W'=>e=.returned (.i (myE f d L out))/\Below W.heap.size W W':=by
 have hb1:=aD W (.cells (cd f d a n cap out) 33)
 have HB0:=aA hb1
 have HC0:=aA (aB.new W 33 (cd f d a n cap out))
 have HCk:=aA (Cde.gF f d out (hL.later hb1))
 have HLI:=aA hL
 have HLn:=aA hL.len
 clear hb1 hL
 rcases aO7 f d L out with⟨hm,h0⟩|⟨hm,h0⟩
 ·obtain⟨-,m1,m2,-,-,-⟩:=Cde.aQ hm
  rw[HLn.o] at m1 m2
  rw[show Cde.ccE f d L out=0 by rw[Cde.ccE,if_pos hm]] at HCk
  rw[h0]
  have HCo:=aA fun w=>qR f d w
  have HA2:=aA fun k=>aR0 (f:=f) (d:=d) (L:=L) (k:=k)
  have HA3:=aA fun k=>aV3 (f:=f) (d:=d) (L:=L) (k:=k)
  unfold pI at HA2 HA3
  unfold pI
  generalize bX f d=cz at *
  obtain⟨R,hR⟩:∃ R:Bool,(L.any fun n=>n.op==3&&decide (cz<=n.k))=R:=⟨_,rfl⟩
  rw[hR] at HA3 ⊢
  have HR:=aA hR
  obtain⟨E,hE⟩:∃ E:Int,ahE R=E:=⟨_,rfl⟩
  rw[hE]
  have HE:=aA hE
  clear hm h0 hR hE
  go_enter Tryz.func68,Tryz.ntmps68
  go_wp2_with fail
  refine HCk.o.mono ?_
  rintro e V1 ⟨rfl,hb⟩
  have HC1:=aA (HC0.o.below hb)
  have HB1:=aA (bel HB0.o hb)
  obtain⟨c0,c1,c2,c3⟩:=aC HC1.o
  clear hb HC0 HB0 HCk
  go_wp2_with fail
  refine(HCo.o _).mono ?_
  rintro e V2 ⟨rfl,hb⟩
  have HC2:=aA (HC1.o.below hb)
  have HB2:=aA (bel HB1.o hb)
  clear hb HC1 HB1 c0 c1 c2 c3
  obtain⟨c0,c1,c2,c3⟩:=aC HC2.o
  go_wp2_with fail
  clear c0 c1 c2 c3
  go_loopw [18] (fun i wr=>∃ k:Nat,k<=n/\i=.i k/\Hid ((L.take k).any (fun n=>n.op==3&&decide (cz<=n.k))=false)/\Hid (Below W.heap.size W wr)) (fun i _=>n-(intOf i).toNat)
  case atStart=>exact⟨0,nZl _,rfl,aA rfl,HB2⟩
  case round =>
   obtain⟨k,hk,rfl,HA,HB⟩:=hrel
   rename World=>V
   clear HB2
   by_cases hlt:k < n
   ·obtain⟨g,off,rfl,-,hat⟩:=(HLI.o.later HB.o).at (by omega)
    obtain⟨e0,e1,e2,e3,e4,e5⟩:=hat k hlt
    clear hat
    have hi0:(0:Int)<=k:=by omega
    have hi1:(k:Int) < n:=by omega
    have HS2:=aA (HA2.o k (by rw[HLn.o];exact hlt) HA.o)
    have HS3:=aA (HA3.o k (by rw[HLn.o];exact hlt))
    generalize L.getD k i0=m at *
    have HB3:=aA (bel HB.o (aD V (.cells (ia m) 132)))
    clear HA2 HA3
    by_cases ho:m.op=3
    ·have ho1:(m.op==3)=true:=by simpa using ho
     by_cases hc:cz<=m.k
     ·have hc1:decide (cz<=m.k)=true:=by simpa using hc
      have HT:=aA (HS3.o (by rw[ho1,hc1];rfl))
      clear HS2 HS3 ho hc
      go_wp2_with fail
      go_ret
      exact⟨aWj (by rw[<-HE.o,HT.o];rfl),HB3.o⟩
     ·have hc1:decide (cz<=m.k)=false:=by simpa using hc
      have HT:=aA (HS2.o (by rw[hc1];simp))
      clear HS2 HS3 ho hc
      go_wp2_with fail
      go_roundw
      case rel=>exact⟨k+1,by omega,by go_num,aA HT.o,HB3⟩
      case measure=>simp[intOf];omega
    ·have ho1:(m.op==3)=false:=by simpa using ho
     have HT:=aA (HS2.o (by rw[ho1];rfl))
     clear HS2 HS3 ho
     go_wp2_with fail
     go_roundw
     case rel=>exact⟨k+1,by omega,by go_num,aA HT.o,HB3⟩
     case measure=>simp[intOf];omega
   ·obtain rfl:k=n:=by omega
    have hT:=HA.o
    rw[lTl (by rw[HLn.o];exact nLr _),HR.o] at hT
    have HT:=aA hT
    clear hT
    go_wp2_with fail
    go_ret
    exact⟨aWj (by rw[<-HE.o,HT.o];rfl),HB.o⟩
 ·rw[show Cde.ccE f d L out=15 by rw[Cde.ccE,if_neg hm]] at HCk
  rw[h0]
  clear hm h0
  go_enter Tryz.func68,Tryz.ntmps68
  go_wp2_with fail
  refine HCk.o.mono ?_
  rintro e V1 ⟨rfl,hb⟩
  have HB1:=aA (bel HB0.o hb)
  clear hb
  go_wp2_with fail
  go_ret
  exact⟨rfl,HB1.o⟩
def SpP (w:World)(Z:Int × eO)(e:Ending)(W':World):Prop :=
 (Z.1≠0/\e=.returned (.tuple #[.slice none 0 0,.i Z.1])/\Below w.heap.size w W') \/
 (Z.1=0/\∃ g,e=.returned (.tuple #[.slice (some ⟨g,0,none⟩) Z.2.length Z.2.length,.i 0])/\w.heap.size<=g/\aB W' g 165 (oP Z.2)/\Below w.heap.size w W')
theorem aIg (f d out:Int)(hL:Ins W a n cap L)(hok:eH L L.length=true)(hn:n<=1024) :
  Calls Tryz.prog 69 #[.agg (cd f d a n cap out)] W (SpP W (iL f d L)):=by
 have hmk:=aC5 n hn
 have hb1:=aD W (.cells (cd f d a n cap out) 33)
 have HB0:=aA (bel hb1 (aD (W.alloc (.cells (cd f d a n cap out) 33)) (.cells (oP (List.replicate n (0,0))) 165)))
 have HC0:=aA ((aB.new W 33 (cd f d a n cap out)).alloc (.cells (oP (List.replicate n (0,0))) 165))
 have HG0:=aA (aJ W (.cells (cd f d a n cap out) 33) 165 (oP (List.replicate n (0,0))))
 have HLI:=aA hL
 have HLn:=aA hL.len
 rw[hL.len] at hok
 have HOk:=aA hok
 clear hb1 hL hok
 go_enter Tryz.func69,Tryz.ntmps69
 go_wp2_with fail
 clear hmk
 go_loopw [16] (fun i wr=>∃(k:Nat) (S:eO),k<=n/\i=.i k/\Hid (iL f d (L.take k)=(0,S))/\Hid (S.length=k)/\Hid (aB wr (W.heap.size+1) 165 (oP (S++List.replicate (n-k) (0,0))))/\Hid (aB wr W.heap.size 33 (cd f d a n cap out))/\Hid (Below W.heap.size W wr)) (fun i _=>n-(intOf i).toNat)
 case atStart=>exact⟨0,[],nZl _,rfl,aA rfl,aA rfl,HG0,HC0,HB0⟩
 case round =>
  obtain⟨k,S,hk,rfl,HS,HSl,HG,HC,HB⟩:=hrel
  rename World=>V
  clear HG0 HC0 HB0
  by_cases hlt:k < n
  ·obtain⟨b,off,rfl,-,hat⟩:=(HLI.o.later HB.o).at (by omega)
   obtain⟨e0,e1,e2,e3,e4,e5⟩:=hat k hlt
   clear hat
   have hi0:(0:Int)<=k:=by omega
   have hi1:(k:Int) < n:=by omega
   have hOk:=Cde.dE HOk.o hlt
   have hS2:=jF f d (L.take k) (L.getD k i0)
   rw[<-aG i0 (by rw[HLn.o];exact hlt),HS.o] at hS2
   have HS2:=aA hS2
   have HSt:=aA fun e h he=>aDr (f:=f) (d:=d) (L:=L) (k:=k+1) (e:=e) h he
   clear hS2
   generalize L.getD k i0=m at *
   have hb:=aD V (.cells (ia m) 132)
   have HG2:=aA (HG.o.below hb)
   have HC2:=aA (HC.o.below hb)
   have HB2:=aA (bel HB.o hb)
   have hl:(S++List.replicate (n-k) ((0:Int),(0:Int))).length=n:=by simp[HSl.o];omega
   have hV:=rH HG2.o (by rw[hl];omega)
   rw[hl] at hV
   have HV:=aA (aMe f d hOk hV (by omega))
   rw[aDs (by rw[HSl.o];exact hOk)] at HV
   obtain⟨c0,c1,c2,c3⟩:=aC HC.o
   have hz0:=HC.o.lt
   have hz1:=HG.o.lt
   clear hb hV hl hOk
   unfold sgS at HS2
   generalize kR f d S m=X at *
   obtain⟨⟨lo,hi⟩,er⟩:=X
   simp only[if_true] at HS2
   go_wp2_with fail
   refine HV.o.mono ?_
   rintro e V3 ⟨rfl,hb⟩
   have HG3:=aA (HG2.o.below hb)
   have HC3:=aA (HC2.o.below hb)
   have HB3:=aA (bel HB2.o hb)
   clear hb HV HG2 HC2 HB2 c0 c1 c2 c3 e0 e1 e2 e3 e4 e5
   by_cases he:er=0
   ·subst he
    rw[if_pos rfl] at HS2
    have HX:=HG3.o
    rw[zX hlt] at HX
    have ya:=HX.frozen (k*2)
    have yb:=HX.frozen (k*2+1)
    have hza:=HX.lt
    obtain⟨ca,hca⟩:=jV (S++(0,0)::List.replicate (n-(k+1)) (0,0)) k (by simp[HSl.o])
    have da:=HX.cell (k*2) ca
    have db:=HX.cell (k*2+1) hca
    have HG4:=aA ((aDk HX HSl.o lo hi).alloc (.cells #[.i lo,.i hi] 165))
    have HC4:=aA ((aBp HC3.o (r:=W.heap.size+1) (k:=k) (by omega) (.i lo) (.i hi)).alloc (.cells #[.i lo,.i hi] 165))
    have HB4:=aA (bel ((HB3.o.setCell (p:=⟨W.heap.size+1,k*2,none⟩) (by simp) (.i lo)).setCell (p:=⟨W.heap.size+1,k*2+1,none⟩) (by simp) (.i hi)) (aD _ (.cells #[.i lo,.i hi] 165)))
    clear HX ca hca HG3 HC3 HB3 HSt HG HC HB hz0 hz1
    go_wp2_with fail
    go_roundw
    case rel=>exact⟨k+1,S++[(lo,hi)],by omega,by go_num,aA HS2.o,aA (by simp[HSl.o]),aA (by rw[lAa];exact HG4.o),aA HC4.o,aA HB4.o⟩
    case measure=>simp[intOf];omega
   ·rw[if_neg he] at HS2
    have HE:=aA (HSt.o _ HS2.o he)
    have HN:=aA he
    have he2:(er != 0)=true:=by simpa using he
    clear HS2 HSt he
    go_wp2_with fail
    exact bPr (v:=.tuple #[.slice none 0 0,.i er]) (by simp[results,Tryz.results69,go_sem]) rfl (.inl (by rw[HE.o];exact⟨HN.o,rfl,bel HB3.o (aD _ _)⟩))
  ·obtain rfl:k=n:=by omega
   have hD:=HS.o
   rw[lTl (by rw[HLn.o];exact nLr _)] at hD
   have HE:=aA hD
   have HX:=HG.o
   rw[Nat.sub_self,List.replicate_zero,List.append_nil] at HX
   have HX2:=aA HX
   clear hD HX
   go_wp2_with fail
   exact bPr (v:=.tuple #[.slice (some ⟨W.heap.size+1,0,none⟩) k k,.i 0]) (by simp[results,Tryz.results69,go_sem]) rfl (.inr (by rw[HE.o];exact⟨rfl,_,by rw[HSl.o],by omega,HX2.o,HB.o⟩))
theorem aZw (h:myE f d L out≠0):aW f d L out=myE f d L out:=by unfold aW;rw[if_pos h]
theorem aVm (h:myE f d L out=0)(h2:(iL f d L).1≠0):aW f d L out=(iL f d L).1:=by unfold aW;rw[if_neg (by simpa using h),if_pos h2]
theorem aVk (h:myE f d L out=0)(h2:(iL f d L).1=0)(h3:200 < eU L):aW f d L out=14:=by unfold aW;rw[if_neg (by simpa using h),if_neg (by simpa using h2),if_pos h3]
theorem bB4 (h:myE f d L out=0)(h2:(iL f d L).1=0)(h3:¬200 < eU L):aW f d L out=0:=by unfold aW;rw[if_neg (by simpa using h),if_neg (by simpa using h2),if_neg h3]
abbrev VfP (own:Bool)(w:World)(f d:Int)(L:List In)(out:Int):Ending->World->Prop:=RpP own w (rM f d L out) (pJ f d L out) (aW f d L out) (sD f d L out)
theorem VfP.no {own:Bool}{w W':World}{f d:Int}{L:List In}{out er:Int}(h:aW f d L out=er)(h0:er≠0)(hb:Below w.heap.size w W'):VfP own w f d L out (.returned (.tuple #[.agg jJ,.i er])) W':=by
 subst h
 obtain⟨e1,e2,e3⟩:=aVl h0
 unfold VfP
 rw[e1,e2,e3]
 exact RpP.no hb
theorem VfP.row {w W':World}{f d:Int}{L:List In}{out:Int}{S:eO}{g n:Nat}{co:Int}(h:aW f d L out=0)(hS:iL f d L=(0,S))(hl:L.length=n)(hco:eU L=co)(hg:aB W' g 165 (oP S))(h0:w.heap.size<=g)(hb:Below w.heap.size w W'):VfP true w f d L out (.returned (.tuple #[.agg #[.slice (some ⟨g,0,none⟩) n n,.i co,.i 0],.i 0])) W':=by
 obtain⟨m,-,⟨S',h1,h2,h3⟩,-,h4,h5⟩:=aI h
 obtain⟨-,-,hf,-⟩:=Cde.aQ m
 rw[hS] at h1
 cases h1
 unfold VfP
 rw[h3,h4,h5,h,hl,hco]
 exact RpP.row hg (by rw[h2,hl]) h0 (by omega) hb
theorem dR (f d out:Int)(hL:Ins W a n cap L) :
  Calls Tryz.prog 26 #[.agg (cd f d a n cap out)] W (VfP true W f d L out):=by
 have hb1:=aD W (.cells (cd f d a n cap out) 33)
 have hb2:=bel hb1 (aD (W.alloc (.cells (cd f d a n cap out) 33)) (.cells jJ 55))
 have HB0:=aA hb2
 have HC0:=aA ((aB.new W 33 (cd f d a n cap out)).alloc (.cells jJ 55))
 have HR0:=aA (aJ W (.cells (cd f d a n cap out) 33) 55 jJ)
 have HM:=aA (aRu f d out (hL.later hb2))
 have HLI:=aA hL
 have HLn:=aA hL.len
 clear hb1 hb2 hL
 by_cases h0:myE f d L out=0
 ·obtain⟨hm,-⟩:=xG.1 h0
  obtain⟨-,m1,m2,-,-,hok⟩:=Cde.aQ hm
  rw[h0] at HM
  rw[HLn.o] at m1 m2
  have HSp:=aA fun(V:World) (h:Ins V a n cap L)=>aIg f d out h hok (by omega)
  have HCo:=aA fun(V:World) (h:Ins V a n cap L)=>Cde.aKl f d out h (by omega)
  have HZ:=aA h0
  clear hm hok h0
  obtain⟨⟨er,S⟩,hX⟩:∃ X,iL f d L=X:=⟨_,rfl⟩
  have HX:=aA hX
  rw[hX] at HSp
  clear hX
  go_enter Tryz.func26,Tryz.ntmps26
  go_wp2_with fail
  refine HM.o.mono ?_
  rintro e V1 ⟨rfl,hb⟩
  have HC1:=aA (HC0.o.below hb)
  have HR1:=aA (HR0.o.below hb)
  have HB1:=aA (bel HB0.o hb)
  obtain⟨c0,c1,c2,c3⟩:=aC HC1.o
  clear hb HC0 HR0 HB0 HM
  go_wp2_with fail
  refine(HSp.o _ (HLI.o.later HB1.o)).mono ?_
  rintro e V2 (⟨he,rfl,hb⟩|⟨he,g,rfl,hg,hG,hb⟩)
  ·have he':er≠0:=he
   have HE:=aA (aVm HZ.o (by rw[HX.o];exact he))
   rw[HX.o] at HE
   have HN:=aA he'
   have hne:(er != 0)=true:=by simpa using he'
   have HR2:=aA (HR1.o.below hb)
   have HB2:=aA (bel HB1.o hb)
   obtain⟨r0,r1,r2,r3,r4,r5⟩:=iJ HR2.o
   clear hb he he' c0 c1 c2 c3
   go_wp2_with fail
   obtain⟨hp,hpb⟩:=fQ HR2.o HB2.o (by omega) (.slice none 0 0) (.i 0) (.i 0)
   have p0:=hp.cell 0 rfl
   have p1:=hp.cell 1 rfl
   have p2:=hp.cell 2 rfl
   exact bPr (v:=.tuple #[.agg jJ,.i er]) (by simp[results,Tryz.results26,go_sem,p0,p1,p2]) rfl (VfP.no HE.o HN.o hpb)
  ·have he':er=0:=he
   subst he'
   have hSl:S.length=n:=by rw[aJv HX.o,HLn.o]
   simp only at hG ⊢
   rw[hSl]
   have HR2:=aA (HR1.o.below hb)
   have HC2:=aA (HC1.o.below hb)
   have HB2:=aA (bel HB1.o hb)
   have HG2:=aA hG
   have HSl:=aA hSl
   have hgl:=HB1.o.size
   have hg1:W.heap.size+1≠g:=by have:=HR1.o.lt;omega
   clear hb he hG hSl c0 c1 c2 c3 HC1 HR1
   obtain⟨c0,c1,c2,c3⟩:=aC HC2.o
   go_wp2_with fail
   refine(HCo.o _ (HLI.o.later HB2.o)).mono ?_
   rintro e V3 ⟨rfl,hb⟩
   obtain⟨co,hco⟩:∃ co,eU L=co:=⟨_,rfl⟩
   rw[hco]
   have HK:=aA hco
   have HR3:=aA (HR2.o.below hb)
   have HG3:=aA (HG2.o.below hb)
   have HB3:=aA (bel HB2.o hb)
   clear hb HR2 HC2 HB2 HG2 c0 c1 c2 c3 hco
   have hlt:=HR3.o.lt
   obtain⟨r0,r1,r2,r3,r4,r5⟩:=iJ HR3.o
   have h00:(iL f d L).1=0:=by rw[HX.o]
   by_cases hc:200 < co
   ·have HE:=aA (aVk HZ.o h00 (by rw[HK.o];exact hc))
    have hc2:decide (200 < co)=true:=by simpa using hc
    obtain⟨hp,hpb⟩:=fQ HR3.o HB3.o (by omega) (.slice none 0 0) (.i 0) (.i 0)
    have P0:=aA (hp.alloc (.cells #[.slice (some ⟨g,0,none⟩) n n,.i co,.i 0] 55))
    have PB:=aA (bel hpb (aD _ (.cells #[.slice (some ⟨g,0,none⟩) n n,.i co,.i 0] 55)))
    clear hp hpb h00 hc
    go_wp2_with fail
    have p0:=P0.o.cell 0 rfl
    have p1:=P0.o.cell 1 rfl
    have p2:=P0.o.cell 2 rfl
    exact bPr (v:=.tuple #[.agg jJ,.i 14]) (by simp[results,Tryz.results26,go_sem,p0,p1,p2]) rfl (VfP.no HE.o (by decide) PB.o)
   ·have HE:=aA (bB4 HZ.o h00 (by rw[HK.o];exact hc))
    have hc2:decide (200 < co)=false:=by simpa using hc
    obtain⟨hp,hpb⟩:=fQ HR3.o HB3.o (by omega) (.slice (some ⟨g,0,none⟩) n n) (.i co) (.i 0)
    have P0:=aA (hp.alloc (.cells #[.slice (some ⟨g,0,none⟩) n n,.i co,.i 0] 55))
    have PB:=aA (bel hpb (aD _ (.cells #[.slice (some ⟨g,0,none⟩) n n,.i co,.i 0] 55)))
    have PG:=aA ((qG HG3.o (r:=W.heap.size+1) (fun e=>hg1 e.symm) (.slice (some ⟨g,0,none⟩) n n) (.i co) (.i 0)).alloc (.cells #[.slice (some ⟨g,0,none⟩) n n,.i co,.i 0] 55))
    clear hp hpb h00 hc
    go_wp2_with fail
    have p0:=P0.o.cell 0 rfl
    have p1:=P0.o.cell 1 rfl
    have p2:=P0.o.cell 2 rfl
    exact bPr (v:=.tuple #[.agg #[.slice (some ⟨g,0,none⟩) n n,.i co,.i 0],.i 0]) (by simp[results,Tryz.results26,go_sem,p0,p1,p2]) rfl (VfP.row HE.o HX.o HLn.o HK.o PG.o (by omega) PB.o)
 ·have HE:=aA (aZw h0)
  have HN:=aA h0
  have hne:(myE f d L out != 0)=true:=by simpa using h0
  generalize myE f d L out=er at *
  clear h0
  go_enter Tryz.func26,Tryz.ntmps26
  go_wp2_with fail
  refine HM.o.mono ?_
  rintro e V1 ⟨rfl,hb⟩
  have HR1:=aA (HR0.o.below hb)
  have HB1:=aA (bel HB0.o hb)
  obtain⟨r0,r1,r2,r3,r4,r5⟩:=iJ HR1.o
  clear hb
  go_wp2_with fail
  obtain⟨hp,hpb⟩:=fQ HR1.o HB1.o (by omega) (.slice none 0 0) (.i 0) (.i 0)
  have p0:=hp.cell 0 rfl
  have p1:=hp.cell 1 rfl
  have p2:=hp.cell 2 rfl
  exact bPr (v:=.tuple #[.agg jJ,.i er]) (by simp[results,Tryz.results26,go_sem,p0,p1,p2]) rfl (VfP.no HE.o HN.o hpb)
end
open Go.RowKit Go.IntWalk Knd
open Cde (In i0 eF dC bE eH kM eU jK)
theorem aE4 {f d k:Int}(hm:May f d)(h0:0<=k)(h5:k<=5):Spn.whP ((gL f d k).getD (0,0))=true:=by
 have hlh:fG f d<=cK f d:=by
  rcases lI f d with⟨h,rfl⟩|⟨h,rfl⟩|h
  ·have:=mJ (d-1) (by have:=h.2.2;omega)
   obtain⟨a,b,-⟩:=zs0 h
   omega
  ·have:=mJ (d-1) (by have:=h.2.2;omega)
   obtain⟨a,b,-⟩:=zs1 h
   omega
  ·exact absurd hm h
 obtain⟨w1,w2,w3⟩:=jN f d
 have hc:1<=nZ f/\nZ f<=2000000:=by unfold nZ;split <;> omega
 have hr:1<=oK f/\oK f<=2000000:=by unfold oK;split <;> omega
 unfold Spn.whP
 rw[Spn.bF]
 unfold w32 at *
 rcases(show k=0\/k=1\/k=2\/k=3\/k=4\/k=5 by omega) with rfl|rfl|rfl|rfl|rfl|rfl
 ·rw[show gL f d 0=some (0,nZ f-1) by unfold gL;rw[if_neg (by simpa using hm)];rfl]
  simp only[oGs];omega
 ·rw[show gL f d 1=some (0,oK f-1) by unfold gL;rw[if_neg (by simpa using hm)];rfl]
  simp only[oGs];omega
 ·rw[show gL f d 2=some (0,3) by unfold gL;rw[if_neg (by simpa using hm)];rfl]
  simp only[oGs];omega
 ·rw[show gL f d 3=some (fG f d,fG f d) by unfold gL;rw[if_neg (by simpa using hm)];rfl]
  simp only[oGs];omega
 ·rw[show gL f d 4=some (cK f d,cK f d) by unfold gL;rw[if_neg (by simpa using hm)];rfl]
  simp only[oGs];omega
 ·rw[show gL f d 5=some (bL f d,bL f d) by unfold gL;rw[if_neg (by simpa using hm)];rfl]
  simp only[oGs];omega
theorem aOo {f d:Int}(hm:May f d):Spn.whP (fG f d,cK f d)=true:=by
 have h3:=aE4 hm (k:=3) (by omega) (by omega)
 have hlh:fG f d<=cK f d:=by
  rcases lI f d with⟨h,rfl⟩|⟨h,rfl⟩|h
  ·have:=mJ (d-1) (by have:=h.2.2;omega)
   obtain⟨a,b,-⟩:=zs0 h
   omega
  ·have:=mJ (d-1) (by have:=h.2.2;omega)
   obtain⟨a,b,-⟩:=zs1 h
   omega
  ·exact absurd hm h
 obtain⟨w1,w2,w3⟩:=jN f d
 unfold Spn.whP
 rw[Spn.bF]
 unfold w32 at *
 dsimp only
 omega
theorem aLt {f d:Int}{S:eO}{n:In}{i:Nat}(hm:May f d)(ho:bE n i=true)(h:(kR f d S n).2=0):Spn.whP (kR f d S n).1=true:=by
 have hc:=Cde.qE ho
 unfold kR at h ⊢
 by_cases h1:n.op=1
 ·rw[if_pos h1]
  rw[Cde.nE,if_pos h1,bAt,Spn.bY] at hc
  unfold Spn.whP
  rw[Spn.bF]
  dsimp only
  omega
 rw[if_neg h1] at h ⊢
 by_cases h2:n.op=2
 ·rw[if_pos h2]
  rw[Cde.nE,if_neg h1,if_pos h2,bAt,Spn.aK] at hc
  exact aE4 hm hc.1.1 hc.1.2
 rw[if_neg h2] at h ⊢
 by_cases h3:n.op=3
 ·rw[if_pos h3];exact aOo hm
 rw[if_neg h3] at h ⊢
 exact(Spn.aJh (Prod.ext rfl h:Spn.ofZ n.op n.k n.s (wX S n)=((_,_),0))).2.2
theorem aBv {f d:Int}{L:List In}(hm:May f d)(hok:eH L L.length=true):∀ k,k<=L.length->∀ S,iL f d (L.take k)=(0,S)->∀ p ∈ S,Spn.whP p=true
 | 0,_,S,h,p,hp=>by
  simp[iL] at h
  subst h
  simp at hp
 | k+1,hk,S,h,p,hp=>by
  rw[Cde.aG i0 (by omega),jF] at h
  unfold sgS at h
  split at h
  ·rename_i h0
   split at h
   ·rename_i h1
    simp only[Prod.mk.injEq,true_and] at h
    subst h
    rcases List.mem_append.1 hp with hp|hp
    ·exact aBv hm hok k (by omega) _ (Prod.ext h0 rfl) p hp
    ·simp at hp
     subst hp
     exact aLt hm (Cde.dE hok (show k < L.length by omega)) h1
   ·rename_i h1
    exact absurd (congrArg Prod.fst h) h1
  ·rename_i h0
   exact absurd (congrArg Prod.fst h) h0
section
variable {f d : Int} {L : List In} {out i : Int} {N : Nat}
end
end Go.Proofs.Vfy
