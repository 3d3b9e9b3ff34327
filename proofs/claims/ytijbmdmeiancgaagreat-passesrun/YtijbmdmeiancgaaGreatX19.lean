import Derived.Test.YtijbmdmeiancgaaGreatXH
import Derived.Laws.MakeOwn
import Derived.Deep.RegionHeld3
import Derived.Test.YtijbmdmeiancgaaGreatX18
import Derived.Test.YtijbmdmeiancgaaGreatX08
import Derived.Test.YtijbmdmeiancgaaGreatX00
set_option maxRecDepth 100000
set_option maxHeartbeats 32000000
set_option linter.unusedVariables false
namespace Go.Proofs.Vfy
open Go.RowKit Go.IntWalk Knd
open Cde (In i0 dP dG bJ eO jG eP lL)
variable {d f out:Int} {L:List In} {k:Nat} {n:In}
abbrev eH:=List (Int × Int)
def uA (S:eH)(n:In):eH:=(dP n).map fun r=>S.getD r.toNat (0,0)
def jV (f d:Int)(S:eH)(n:In):(Int × Int) × Int :=
 if n.op=1 then((n.k,n.k),0) else if n.op=2 then((iH f d n.k).getD (0,0),0) else if n.op=3 then((dJ f d,bK f d),0) else Spn.rV n.op n.k n.s (uA S n)
def wE (f d:Int)(s:Int × eH)(n:In):Int × eH :=
 if s.1=0 then(if (jV f d s.2 n).2=0 then(0,s.2++[(jV f d s.2 n).1]) else((jV f d s.2 n).2,[])) else s
def gN (f d:Int)(L:List In):Int × eH:=L.foldl (wE f d) (0,[])
theorem iL (f d:Int)(L:List In)(n:In):gN f d (L++[n])=wE f d (gN f d L) n:=by simp[gN]
theorem sD (f d:Int):∀(L:List In) (s:Int × eH),s.1≠0->L.foldl (wE f d) s=s
 | [],s,h=>rfl
 | n::L,s,h=>by
  rw[List.foldl_cons,show wE f d s n=s by rw[wE,if_neg h]]
  exact sD f d L s h
theorem aEi (f d:Int)(A B:List In):gN f d (A++B)=B.foldl (wE f d) (gN f d A):=by rw[gN,List.foldl_append];rfl
theorem tL {e:Int × eH}(h:gN f d (L.take k)=e)(he:e.1≠0):gN f d L=e:=by
 have:gN f d L=(L.drop k).foldl (wE f d) (gN f d (L.take k)):=by
  rw[<-aEi,List.take_append_drop]
 rw[this,h,sD f d _ _ he]
theorem tY (f d:Int)(L:List In):∀ k,k<=L.length->(gN f d (L.take k)).1=0->(gN f d (L.take k)).2.length=k
 | 0,_,_=>by simp[gN]
 | k+1,h,he=>by
  have ih:=tY f d L k (by omega)
  rw[Cde.aM i0 (by omega),iL] at he ⊢
  unfold wE at he ⊢
  split at he
  ·rename_i h0
   rw[if_pos h0]
   split at he
   ·rename_i h1
    rw[if_pos h1]
    simp[ih h0]
   ·rename_i h1
    exact absurd he h1
  ·rename_i h0
   exact absurd he h0
theorem aE4 {S:eH}(h:gN f d L=(0,S)):S.length=L.length:=by
 have:=tY f d L L.length (Nat.le_refl _)
 rw[List.take_length,h] at this
 exact this rfl
theorem aAx {S Z:eH}{i:Nat}(h:i < S.length):(S++Z).getD i (0,0)=S.getD i (0,0):=by
 rw[List.getD_eq_getElem?_getD,List.getElem?_append_left h,<-List.getD_eq_getElem?_getD]
theorem mP {i:Nat}(h:bJ n i=true){r:Int}(hr:r ∈ dP n):0<=r/\r.toNat < i:=by
 obtain⟨j,hj,rfl⟩:=List.getElem_of_mem hr
 rw[Cde.fD] at hj
 have:=Cde.oD h hj
 rw[<-Cde.nP n j hj,List.getD_eq_getElem?_getD,List.getElem?_eq_getElem (by rw[Cde.fD];exact hj)] at this
 exact this
theorem aMf {S Z:eH}(h:bJ n S.length=true):uA (S++Z) n=uA S n:=by
 unfold uA
 apply List.map_congr_left
 intro r hr
 exact aAx (mP h hr).2
theorem zQ {S Z:eH}(h:bJ n S.length=true):jV f d (S++Z) n=jV f d S n:=by
 rw[jV,jV,aMf h]
def nM (f d:Int)(n:In):Bool:=n.op==3&&decide (eG f d<=n.k)
theorem aE0 (hk:k < L.length)(h:(L.take k).any (nM f d)=false)(h2:nM f d (L.getD k i0)=false):(L.take (k+1)).any (nM f d)=false:=by
 rw[Cde.aM i0 hk,List.any_append,h,List.any_cons,h2];rfl
theorem aKt (hk:k < L.length)(h2:nM f d (L.getD k i0)=true):L.any (nM f d)=true:=by
 rw[List.any_eq_true]
 exact⟨L.getD k i0,Cde.oF i0 hk,h2⟩
def uB (f d:Int)(L:List In)(out:Int):Int:=if jG f d L out=true then(if L.any (nM f d)=true then 11 else 0) else 15
def bL (f d:Int)(L:List In)(out:Int):Int :=
 if uB f d L out≠0 then uB f d L out else if (gN f d L).1≠0 then(gN f d L).1 else if 200 < eP L then 14 else 0
def kN (f d:Int)(L:List In)(out:Int):Nat:=if bL f d L out=0 then L.length else 0
def kK (f d:Int)(L:List In)(out:Int):Int:=if bL f d L out=0 then eP L else 0
def pR (f d:Int)(L:List In)(out:Int):eH:=if bL f d L out=0 then(gN f d L).2 else[]
theorem uC :uB f d L out=0↔jG f d L out=true/\L.any (nM f d)=false:=by
 unfold uB
 constructor
 ·intro h
  split at h
  ·rename_i h1
   split at h
   ·omega
   ·rename_i h2
    exact⟨h1,by simpa using h2⟩
  ·omega
 ·rintro⟨h1,h2⟩
  rw[if_pos h1,if_neg (by simp[h2])]
theorem aEd :bL f d L out=0↔uB f d L out=0/\(gN f d L).1=0/\eP L<=200:=by
 unfold bL
 constructor
 ·intro h
  split at h
  ·rename_i h1;exact absurd h h1
  ·rename_i h1
   split at h
   ·rename_i h2;exact absurd h h2
   ·rename_i h2
    split at h
    ·omega
    ·exact⟨by simpa using h1,by simpa using h2,by omega⟩
 ·rintro⟨h1,h2,h3⟩
  rw[if_neg (by simpa using h1),if_neg (by simpa using h2),if_neg (by omega)]
theorem aT (h:bL f d L out=0):jG f d L out=true/\L.any (nM f d)=false/\(∃ S,gN f d L=(0,S)/\S.length=L.length/\pR f d L out=S)/\eP L<=200/\kN f d L out=L.length/\kK f d L out=eP L:=by
 obtain⟨h1,h2,h3⟩:=aEd.1 h
 obtain⟨h4,h5⟩:=uC.1 h1
 have e:gN f d L=(0,(gN f d L).2):=Prod.ext h2 rfl
 exact⟨h4,h5,⟨_,e,aE4 e,by rw[pR,if_pos h]⟩,h3,by rw[kN,if_pos h],by rw[kK,if_pos h]⟩
theorem aM2 (h:bL f d L out≠0):kN f d L out=0/\kK f d L out=0/\pR f d L out=[]:=by
 refine⟨by rw[kN,if_neg h],by rw[kK,if_neg h],by rw[pR,if_neg h]⟩
end Go.Proofs.Vfy
namespace Go.Proofs.Vfy
open Go.RowKit Go.IntWalk Knd
open YtijbmdmeiancgaaGreat (Wd tF Fits inpV)
open Cde (In i0 dP dG bJ eO jG eP lL fB qY rF nG jM)
variable {V:List Int} {d f:Int} {v:Wd} {L:List In}
abbrev w32 (x:Int):Prop:=-2147483648<=x/\x<=2147483647
def zV (V:List Int)(S:eH):Prop:=V.length=S.length/\∀ i,i < S.length->(S.getD i (0,0)).1<=V.getD i 0/\V.getD i 0<=(S.getD i (0,0)).2/\w32 (V.getD i 0)
theorem zV.snoc {S:eH}{x:Int}{p:Int × Int}(h:zV V S)(h1:p.1<=x)(h2:x<=p.2)(h3:w32 x):zV (V++[x]) (S++[p]):=by
 have hl:=h.1
 refine⟨by simp[hl],fun i hi=>?_⟩
 simp only[List.length_append,List.length_cons,List.length_nil] at hi
 by_cases e:i < S.length
 ·rw[aAx e,Cde.gP (by omega)]
  exact h.2 i e
 ·have e2:i=S.length:=by omega
  subst e2
  rw[show (S++[p]).getD S.length (0,0)=p by simp[List.getD_eq_getElem?_getD],show (V++[x]).getD S.length 0=x by rw[<-hl];simp[List.getD_eq_getElem?_getD]]
  exact⟨h1,h2,h3⟩
theorem zV.ins {V:List Int}{S:eH}(h:zV V S):∀(P:List Int),(∀ p ∈ P,p.toNat < S.length)->Spn.Ins (P.map fun p=>V.getD p.toNat 0) (P.map fun p=>S.getD p.toNat (0,0))
 | [],_=>trivial
 | p::P,hp=>by
  obtain⟨h1,h2,-⟩:=h.2 p.toNat (hp p (by simp))
  exact⟨⟨h1,h2⟩,zV.ins h P fun q hq=>hp q (by simp[hq])⟩
theorem oI (f d:Int):w32 (dJ f d)/\w32 (bK f d)/\w32 (aV f d):=by
 rcases nA f d with⟨hm,rfl⟩|⟨hm,rfl⟩|hm
 ·have:=iW (d-1) (by have:=hm.2.2;omega)
  obtain⟨a,b,c,-⟩:=zs0 hm
  rw[a,b,c];unfold w32;omega
 ·have:=iW (d-1) (by have:=hm.2.2;omega)
  obtain⟨a,b,c,-⟩:=zs1 hm
  rw[a,b,c];unfold w32;omega
 ·obtain⟨a,b,c,-⟩:=zs2 hm
  rw[a,b,c];unfold w32;omega
theorem aEq {op k s x:Int}{xs:List Int}(h:Spn.aR op k s xs=(x,0)):w32 x:=by
 unfold Spn.aR at h
 split at h
 ·split at h
  ·split at h
   ·rename_i hw
    cases h
    exact Spn.bE.1 hw
   ·cases h
  ·rename_i h1
   exact absurd (congrArg Prod.snd h) h1
 ·cases h
theorem aLo (f:Int):lS f<=2147483647/\lN f<=2147483647:=by
 unfold lS lN
 constructor <;> (repeat' split) <;> omega
theorem aQj {k:Int}(hm:May f d)(hF:Fits f d v)(h0:0<=k)(h5:k<=5):((iH f d k).getD (0,0)).1<=inpV f d v k/\inpV f d v k<=((iH f d k).getD (0,0)).2/\w32 (inpV f d v k):=by
 obtain⟨⟨⟨⟨a1,a2,e1,g1,g2⟩,⟨b1,b2,e2,g3,g4⟩⟩,⟨c1,c2,e3,g5,g6⟩⟩,-⟩:=hF
 obtain⟨w1,w2,w3⟩:=oI f d
 have hcr:=aLo f
 rcases(show k=0\/k=1\/k=2\/k=3\/k=4\/k=5 by omega) with rfl|rfl|rfl|rfl|rfl|rfl
 ·rw[e1]
  have e:iH f d 0=some (0,lS f-1):=by unfold iH;rw[if_neg (by simpa using hm)];rfl
  rw[e] at e1
  cases e1
  exact⟨g1,g2,by show w32 v.x;unfold w32;omega⟩
 ·rw[e2]
  have e:iH f d 1=some (0,lN f-1):=by unfold iH;rw[if_neg (by simpa using hm)];rfl
  rw[e] at e2
  cases e2
  exact⟨g3,g4,by show w32 v.y;unfold w32;omega⟩
 ·rw[e3]
  have e:iH f d 2=some (0,3):=by unfold iH;rw[if_neg (by simpa using hm)];rfl
  rw[e] at e3
  cases e3
  exact⟨g5,g6,by show w32 v.c;unfold w32;omega⟩
 ·have e:iH f d 3=some (dJ f d,dJ f d):=by unfold iH;rw[if_neg (by simpa using hm)];rfl
  rw[e];exact⟨Int.le_refl _,Int.le_refl _,w1⟩
 ·have e:iH f d 4=some (bK f d,bK f d):=by unfold iH;rw[if_neg (by simpa using hm)];rfl
  rw[e];exact⟨Int.le_refl _,Int.le_refl _,w2⟩
 ·have e:iH f d 5=some (aV f d,aV f d):=by unfold iH;rw[if_neg (by simpa using hm)];rfl
  rw[e];exact⟨Int.le_refl _,Int.le_refl _,w3⟩
theorem aPg {S:eH}{n:In}(hm:May f d)(hF:Fits f d v)(hI:zV V S)(ho:bJ n S.length=true)(ha:nM f d n=false)(h:(jV f d S n).2=0) :
  (fB f d v V n).2=0/\(jV f d S n).1.1<=(fB f d v V n).1/\(fB f d v V n).1<=(jV f d S n).1.2/\w32 (fB f d v V n).1:=by
 have hc:=Cde.nV ho
 unfold fB
 unfold jV at h ⊢
 by_cases h1:n.op=1
 ·rw[if_pos h1] at h ⊢
  rw[if_pos h1]
  rw[Cde.kZ,if_pos h1,Bool.and_eq_true,Spn.bE] at hc
  exact⟨rfl,Int.le_refl _,Int.le_refl _,hc.1⟩
 rw[if_neg h1] at h ⊢
 rw[if_neg h1]
 by_cases h2:n.op=2
 ·rw[if_pos h2] at h ⊢
  rw[if_pos h2]
  rw[Cde.kZ,if_neg h1,if_pos h2,Bool.and_eq_true,Spn.aP] at hc
  exact⟨rfl,aQj hm hF hc.1.1 hc.1.2⟩
 rw[if_neg h2] at h ⊢
 rw[if_neg h2]
 by_cases h3:n.op=3
 ·rw[if_pos h3] at h ⊢
  rw[if_pos h3]
  rw[Cde.kZ,if_neg h1,if_neg h2,if_pos h3,Bool.and_eq_true,Spn.aP] at hc
  have hk:¬eG f d<=n.k:=by
   intro hk
   have:nM f d n=true:=by unfold nM;rw[h3];simpa using hk
   rw[this] at ha;cases ha
  rw[if_neg hk]
  have hfl:=Cde.aMg hF
  have hl:n.k.toNat < v.ps.length:=by omega
  have hmem:=hF.2.2 (v.ps.getD n.k.toNat 0) (Cde.oF 0 hl)
  obtain⟨w1,w2,-⟩:=oI f d
  exact⟨rfl,hmem.1,hmem.2,by unfold w32 at *;dsimp only;omega⟩
 rw[if_neg h3] at h ⊢
 rw[if_neg h3]
 obtain⟨x,h5,h6,h7⟩:=Spn.aGd (Prod.ext rfl h:Spn.rV n.op n.k n.s (uA S n)=((_,_),0)) (hI.ins (dP n) fun p hp=>(mP ho hp).2)
 have e:Spn.aR n.op n.k n.s (jM V n)=(x,0):=h5
 rw[e]
 exact⟨rfl,h6,h7,aEq h5⟩
theorem eT (h:L.any (nM f d)=false){k:Nat}(hk:k < L.length):nM f d (L.getD k i0)=false:=by
 cases hb:nM f d (L.getD k i0)
 ·rfl
 ·rw[aKt hk hb] at h;cases h
theorem wC {f d:Int}{v:Wd}{L:List In}(hm:May f d)(hF:Fits f d v)(hok:eO L L.length=true)(ha:L.any (nM f d)=false)(h0:(gN f d L).1=0) :
  ∀ k,k<=L.length->∃ V S,rF f d v (L.take k)=(0,V)/\gN f d (L.take k)=(0,S)/\zV V S
 | 0,_=>⟨[],[],rfl,rfl,rfl,fun i hi=>by simp at hi⟩
 | k+1,hk=>by
  obtain⟨V,S,h1,h2,h3⟩:=wC hm hF hok ha h0 k (by omega)
  have hl:S.length=k:=by
   have:=tY f d L k (by omega)
   rw[h2] at this
   exact this rfl
  have ho:=Cde.bW hok (show k < L.length by omega)
  rw[<-hl] at ho
  have hz:(jV f d S (L.getD k i0)).2=0:=by
   by_cases hz:(jV f d S (L.getD k i0)).2=0
   ·exact hz
   ·have e:gN f d (L.take (k+1))=((jV f d S (L.getD k i0)).2,[]):=by
     rw[Cde.aM i0 (by omega),iL,h2,wE,if_pos rfl,if_neg hz]
    have:=tL e hz
    rw[this] at h0
    exact absurd h0 hz
  rw[hl] at ho
  obtain⟨a,b,c,e⟩:=aPg hm hF h3 (by rw[hl];exact ho) (eT ha (by omega)) hz
  refine⟨V++[(fB f d v V (L.getD k i0)).1],S++[(jV f d S (L.getD k i0)).1],?_,?_,h3.snoc b c e⟩
  ·rw[Cde.aM i0 (by omega),Cde.fE,h1,qY,if_pos rfl,if_pos a]
  ·rw[Cde.aM i0 (by omega),iL,h2,wE,if_pos rfl,if_pos hz]
theorem aJa {n:In}{i:Nat}(h:bJ n i=true):1<=lL n.op:=by
 have h4:n.op≠4:=by
  intro e
  have:=Cde.vI h
  rw[e] at this
  exact absurd this (by decide)
 unfold lL
 rw[if_neg h4]
 repeat' split
 all_goals omega
theorem aN6 {L:List In}(hok:eO L L.length=true):∀ k:Nat,k<=L.length->(k:Int)<=eP (L.take k)
 | 0,_=>by simp[eP]
 | k+1,hk=>by
  have ih:=aN6 hok k (by omega)
  have:=aJa (Cde.bW hok (show k < L.length by omega))
  rw[Cde.aM i0 (by omega),Cde.gL]
  omega
theorem vH {out:Int}(h:bL f d L out=0):(L.length:Int)<=eP L/\eP L<=200/\∀ v:Wd,Fits f d v->∃ V,nG f d v L out=(0,V)/\zV V (pR f d L out):=by
 obtain⟨m,ha,⟨S,hS,hl,hs⟩,hc,-,-⟩:=aT h
 obtain⟨hm,-,-,-,-,hok⟩:=Cde.bD m
 refine⟨?_,hc,fun v hF=>?_⟩
 ·have:=aN6 hok L.length (Nat.le_refl _)
  rwa[List.take_length] at this
 ·obtain⟨V,S',h1,h2,h3⟩:=wC hm hF hok ha (by rw[hS]) L.length (Nat.le_refl _)
  rw[List.take_length] at h1 h2
  rw[hS] at h2
  cases h2
  refine⟨V,?_,by rw[hs];exact h3⟩
  rw[nG,if_pos m,if_pos hF]
  exact h1
end Go.Proofs.Vfy
namespace Go.Proofs.Vfy
open Go.RowKit Go.IntWalk Knd
variable {W w:World} {b g k r:Nat} {t:TypeId} {cs:Array Value} {p q:Value}
abbrev oU:Array Value:=#[.slice none 0 0,.int .i64 0,.int .i64 0]
abbrev xC (L:eH):Array Value:=(Spn.jL L).toArray
theorem yG (L:eH)(i:Nat)(h:i < L.length):(xC L)[i*2]?=some (.int .i64 (L.getD i (0,0)).1)/\(xC L)[i*2+1]?=some (.int .i64 (L.getD i (0,0)).2):=by
 unfold xC
 rw[List.getElem?_toArray,List.getElem?_toArray]
 exact Spn.uW L i h
theorem aM3 (n:Nat):madeCells #[.int .i64 0,.int .i64 0] (n*2)=xC (List.replicate n (0,0)):=by
 apply Array.ext_getElem?
 intro i
 by_cases hi:i < n*2
 ·have h1:(madeCells #[.int .i64 0,.int .i64 0] (n*2))[i]?=some (.int .i64 0):=by
   unfold madeCells
   rw[Array.getElem?_map,Array.getElem?_eq_getElem (by simpa using hi)]
   simp only[Array.getElem_range,Option.map_some]
   rcases(show i % 2=0\/i % 2=1 by omega) with h|h <;> (show some ((#[Value.int .i64 0,.int .i64 0])[i % 2]!)=_;rw[h];rfl)
  rw[h1]
  obtain⟨a,b⟩:=yG (List.replicate n (0,0)) (i / 2) (by simp;omega)
  have hz:(List.replicate n ((0:Int),(0:Int))).getD (i / 2) (0,0)=(0,0):=by
   rw[List.getD_eq_getElem?_getD,List.getElem?_replicate];split <;> rfl
  rw[hz] at a b
  rcases(show i % 2=0\/i % 2=1 by omega) with h|h
  ·rw[show i=i / 2*2 by omega];exact a.symm
  ·rw[show i=i / 2*2+1 by omega];exact b.symm
 ·rw[Array.getElem?_eq_none (by rw[size_madeCells];omega),Array.getElem?_eq_none (by simp[Spn.mF];omega)]
theorem aLy (n:Nat)(h:n<=1024)(w:World):(Instr.makeSlice 45 (.int .i64 n) (.int .i64 n)).run Tryz.prog w=.ok (.slice (some ⟨w.heap.size,0,none⟩) n n) (w.alloc (.cells (xC (List.replicate n (0,0))) 81)):=by
 obtain⟨i0,hi,hz0,hz1,hz2⟩:=Spn.info_parts Spn.aC2
 have:=run_make w 45 81 i0 _ Tryz.underlying45 hi hz0 .i64 .i64 n n (by omega) (Int.le_refl _) (by rw[hz2];omega) (by omega)
 rw[hz1] at this
 simp only[Int.toNat_natCast] at this
 have e:madeCells (Value.agg #[.int .i64 0,.int .i64 0]).cells (n*2)=xC (List.replicate n (0,0)):=aM3 n
 rw[e] at this
 exact this
theorem aOs (S Z:eH)(p q:Int × Int):((xC (S++q::Z)).setIfInBounds (S.length*2) (.int .i64 p.1)).setIfInBounds (S.length*2+1) (.int .i64 p.2)=xC (S++p::Z):=by
 apply Array.toList_inj.1
 simp only[Array.toList_setIfInBounds]
 have e:∀ r:Int × Int,Spn.jL (S++r::Z)=Spn.jL S++(.int .i64 r.1::.int .i64 r.2::Spn.jL Z):=fun r=>by simp[Spn.jL]
 rw[e,e,List.set_append_right _ _ (by rw[Spn.mF];omega),List.set_append_right _ _ (by rw[Spn.mF];omega),Spn.mF]
 simp
theorem xG {L:eH}(h:aI W g 81 (xC L))(hl:L.length<=1024):Spn.Spans W (some ⟨g,0,none⟩) L.length L.length L:=by
 refine⟨rfl,Nat.le_refl _,by unfold maxLen;omega,(fun e=>by cases e),.inr ⟨g,0,rfl,fun i hi=>?_⟩⟩
 obtain⟨a,b⟩:=yG L i hi
 rw[Nat.zero_add]
 exact⟨h.cell (i*2) a,h.cell (i*2+1) b⟩
theorem aOn {S Z:eH}{q:Int × Int}(h:aI W g 81 (xC (S++q::Z)))(hk:S.length=k)(x y:Int):aI ((W.setCell ⟨g,k*2,none⟩ (.int .i64 x)).setCell ⟨g,k*2+1,none⟩ (.int .i64 y)) g 81 (xC (S++(x,y)::Z)):=by
 subst hk
 have:=(h.set (S.length*2) (.int .i64 x)).set (S.length*2+1) (.int .i64 y)
 rwa[show ((xC (S++q::Z)).setIfInBounds (S.length*2) (.int .i64 x)).setIfInBounds (S.length*2+1) (.int .i64 y)=xC (S++(x,y)::Z) from aOs S Z (x,y) q] at this
theorem aJp {n:Nat}(h:k < n):List.replicate (n-k) ((0:Int),(0:Int))=(0,0)::List.replicate (n-(k+1)) (0,0):=by
 rw[show n-k=(n-(k+1))+1 by omega,List.replicate_succ]
theorem aSb (h:aI W b t cs)(hr:b≠r)(x y:Value):aI ((W.setCell ⟨r,k*2,none⟩ x).setCell ⟨r,k*2+1,none⟩ y) b t cs:=(h.other (p:=⟨r,k*2,none⟩) hr x).other (p:=⟨r,k*2+1,none⟩) hr y
theorem bB {x y:Value}(h:aI W b t #[x,y]):W.cell? ⟨b,0,none⟩=some x/\W.cell? ⟨b,1,none⟩=some y/\W.frozen? ⟨b,0,none⟩=false/\W.frozen? ⟨b,1,none⟩=false :=
 ⟨h.cell 0 rfl,h.cell 1 rfl,h.frozen 0,h.frozen 1⟩
theorem qB {w2:World}(h:aI w2 b t #[p,q])(hB:Below w.heap.size w w2)(hb:w.heap.size<=b)(x y:Int) :
  ((w2.setCell ⟨b,0,none⟩ (.int .i64 x)).setCell ⟨b,1,none⟩ (.int .i64 y)).cell? ⟨b,0,none⟩=some (.int .i64 x)/\((w2.setCell ⟨b,0,none⟩ (.int .i64 x)).setCell ⟨b,1,none⟩ (.int .i64 y)).cell? ⟨b,1,none⟩=some (.int .i64 y) /\
  Below w.heap.size w ((w2.setCell ⟨b,0,none⟩ (.int .i64 x)).setCell ⟨b,1,none⟩ (.int .i64 y)) :=
 Spn.aK h hB hb x y
theorem aMc (h:aI W b t cs)(hr:b≠r)(x y:Value):aI ((W.setCell ⟨r,0,none⟩ x).setCell ⟨r,1,none⟩ y) b t cs:=(h.other (p:=⟨r,0,none⟩) hr x).other (p:=⟨r,1,none⟩) hr y
theorem set2 (h:aI W b t #[p,q])(x y:Value):aI ((W.setCell ⟨b,0,none⟩ x).setCell ⟨b,1,none⟩ y) b t #[x,y]:=(h.set 0 x).set 1 y
theorem kT {x y z:Value}(h:aI W b t #[x,y,z]):W.cell? ⟨b,0,none⟩=some x/\W.cell? ⟨b,1,none⟩=some y/\W.cell? ⟨b,2,none⟩=some z/\W.frozen? ⟨b,0,none⟩=false/\W.frozen? ⟨b,1,none⟩=false/\W.frozen? ⟨b,2,none⟩=false :=
 ⟨h.cell 0 rfl,h.cell 1 rfl,h.cell 2 rfl,h.frozen 0,h.frozen 1,h.frozen 2⟩
theorem gH {w2:World}{r:Value}(h:aI w2 b t #[p,q,r])(hB:Below w.heap.size w w2)(hb:w.heap.size<=b)(x y z:Value) :
  aI (((w2.setCell ⟨b,0,none⟩ x).setCell ⟨b,1,none⟩ y).setCell ⟨b,2,none⟩ z) b t #[x,y,z] /\
  Below w.heap.size w (((w2.setCell ⟨b,0,none⟩ x).setCell ⟨b,1,none⟩ y).setCell ⟨b,2,none⟩ z) :=
 ⟨((h.set 0 x).set 1 y).set 2 z,((hB.setCell (p:=⟨b,0,none⟩) hb _).setCell (p:=⟨b,1,none⟩) hb _).setCell (p:=⟨b,2,none⟩) hb _⟩
theorem aBy (h:aI W b t cs)(hr:b≠r)(x y z:Value):aI (((W.setCell ⟨r,0,none⟩ x).setCell ⟨r,1,none⟩ y).setCell ⟨r,2,none⟩ z) b t cs :=
 ((h.other (p:=⟨r,0,none⟩) hr x).other (p:=⟨r,1,none⟩) hr y).other (p:=⟨r,2,none⟩) hr z
theorem aDx (W:World):Spn.Spans W none 0 0 []:=⟨rfl,Nat.le_refl _,by unfold maxLen;omega,fun _=>rfl,.inl rfl⟩
def Own (z n:Nat)(a:Option Addr)(V:World):Prop:=n=0\/∃ g cs,a=some ⟨g,0,none⟩/\z<=g/\aI V g 81 cs/\cs.size=2*n
def RpP (own:Bool)(w:World)(n:Nat)(co er:Int)(S:eH)(e:Ending)(W':World):Prop :=
 ∃ a cap,e=.returned (.tuple #[.agg #[.slice a n cap,.int .i64 co,.int .i64 0],.int .i64 er])/\Spn.Spans W' a n cap S/\Below w.heap.size w W'/\(∀ b off,a=some ⟨b,off,none⟩->w.heap.size<=b)/\(own=true->Own w.heap.size n a W')
theorem RpP.no {own:Bool}{W':World}{er:Int}(hb:Below w.heap.size w W'):RpP own w 0 0 er [] (.returned (.tuple #[.agg oU,.int .i64 er])) W' :=
 ⟨none,0,rfl,aDx _,hb,fun b off h=>by simp at h,fun _=>.inl rfl⟩
theorem RpP.row {W':World}{S:eH}{n:Nat}{co:Int}(hg:aI W' g 81 (xC S))(hn:S.length=n)(h0:w.heap.size<=g)(hl:n<=1024)(hb:Below w.heap.size w W'):RpP true w n co 0 S (.returned (.tuple #[.agg #[.slice (some ⟨g,0,none⟩) n n,.int .i64 co,.int .i64 0],.int .i64 0])) W':=by
 subst hn
 exact⟨_,_,rfl,xG hg hl,hb,fun b off h=>by cases h;exact h0,fun _=>.inr ⟨g,_,rfl,h0,hg,by simp[Spn.mF];omega⟩⟩
end Go.Proofs.Vfy
namespace Go.Proofs.Vfy
open Go.RowKit Go.IntWalk Knd
open Cde (In i0 ia kd dP dG bJ zA abc kM aJ aL)
theorem yV (S:eH)(n:In):(uA S n).length=dG n:=by rw[uA,List.length_map,Cde.fD]
theorem aB0 {S:eH}{n:In}{k:Nat}(hk:k < dG n):(uA S n).take (k+1)=(uA S n).take k++[S.getD (Cde.jS n k).toNat (0,0)]:=by
 rw[Cde.aM (0,0) (by rw[yV];exact hk),<-Cde.nP n k hk]
 congr 2
 simp[uA,List.getD_eq_getElem?_getD,List.getElem?_map,List.getElem?_eq_getElem (show k < (dP n).length by rw[Cde.fD];exact hk)]
theorem aRo (f d:Int)(n:In)(a:Option Addr)(sl sc:Nat)(h:n.op=1\/n.op=2\/n.op=3)(S:eH)(W:World) :
  Calls Tryz.prog 63 #[.agg (kd f d),.agg (ia n),.slice a sl sc] W fun e W'=>e=.returned (Spn.lH (jV f d S n))/\Below W.heap.size W W':=by
 obtain⟨o,pa,pb,pc,pk,ps⟩:=n
 simp only at h
 have hb1:=aH W (.cells (kd f d) 23)
 have hb2:=bel hb1 (aH (W.alloc (.cells (kd f d) 23)) (.cells (ia ⟨o,pa,pb,pc,pk,ps⟩) 57))
 have hb3:=bel hb2 (aH ((W.alloc (.cells (kd f d) 23)).alloc (.cells (ia ⟨o,pa,pb,pc,pk,ps⟩) 57)) (.cells #[.int .i64 0,.int .i64 0] 81))
 have HB0:=aC hb3
 have HBk:=aC hb2
 have HK0:=aC (((aI.new W 23 (kd f d)).alloc (.cells (ia ⟨o,pa,pb,pc,pk,ps⟩) 57)).alloc (.cells #[.int .i64 0,.int .i64 0] 81))
 have HR0:Hid (aI (((W.alloc (.cells (kd f d) 23)).alloc (.cells (ia ⟨o,pa,pb,pc,pk,ps⟩) 57)).alloc (.cells #[.int .i64 0,.int .i64 0] 81)) (W.heap.size+1+1) 81 #[.int .i64 0,.int .i64 0]):=by
  have:=aI.new ((W.alloc (.cells (kd f d) 23)).alloc (.cells (ia ⟨o,pa,pb,pc,pk,ps⟩) 57)) 81 #[.int .i64 0,.int .i64 0]
  simp only[World.size_alloc] at this
  exact aC this
 clear hb1 hb2 hb3
 rcases h with rfl|rfl|rfl
 ·rw[show jV f d S ⟨1,pa,pb,pc,pk,ps⟩=((pk,pk),0) from rfl]
  go_enter Tryz.func63,Tryz.ntmps63
  go_wp2
  exact bodyPost_ret (v:=.tuple #[.agg #[.int .i64 pk,.int .i64 pk],.int .i64 0]) (by simp[results,Tryz.results63,go_sem]) rfl ⟨rfl,bel HBk.o (aH _ _)⟩
 ·rw[show jV f d S ⟨2,pa,pb,pc,pk,ps⟩=((iH f d pk).getD (0,0),0) from rfl]
  have HI:=aC fun w=>aFv f d pk w
  unfold nD at HI
  obtain⟨⟨lo,hi⟩,hp⟩:∃ p,(iH f d pk).getD (0,0)=p:=⟨_,rfl⟩
  rw[hp] at HI ⊢
  generalize (iH f d pk).isSome=q at HI
  clear hp
  go_enter Tryz.func63,Tryz.ntmps63
  go_wp2_with fail
  refine(HI.o _).mono ?_
  rintro e V1 ⟨rfl,hb⟩
  have HB1:=aC (bel HB0.o hb)
  have hz:=(HR0.o.below hb).lt
  obtain⟨-,-,hB⟩:=qB (HR0.o.below hb) HB1.o (by omega) lo hi
  have h3:=(set2 (HR0.o.below hb) (.int .i64 lo) (.int .i64 hi)).alloc (.cells #[.int .i64 lo,.int .i64 hi] 81)
  have r0:=h3.cell 0 rfl
  have r1:=h3.cell 1 rfl
  have HB2:=aC (bel hB (aH _ (.cells #[.int .i64 lo,.int .i64 hi] 81)))
  have HR2:=aC r0
  have HR3:=aC r1
  clear r0 r1 h3 hB
  obtain⟨c0,c1,c2,c3⟩:=bB (HR0.o.below hb)
  clear hb
  go_wp2_with fail
  have r0:=HR2.o
  have r1:=HR3.o
  exact bodyPost_ret (v:=.tuple #[.agg #[.int .i64 lo,.int .i64 hi],.int .i64 0]) (by simp only[results,Tryz.results63];simp[go_sem,r0,r1]) rfl ⟨rfl,HB2.o⟩
 ·rw[show jV f d S ⟨3,pa,pb,pc,pk,ps⟩=((dJ f d,bK f d),0) from rfl]
  have HLo:=aC fun w=>yK f d w
  have HHi:=aC fun w=>uL f d w
  generalize dJ f d=lo at *
  generalize bK f d=hi at *
  have x0:=HK0.o.cell 0 rfl
  have y0:=HK0.o.cell 1 rfl
  go_enter Tryz.func63,Tryz.ntmps63
  go_wp2_with fail
  obtain⟨W0,hW0⟩:∃ W0,(((W.alloc (.cells (kd f d) 23)).alloc (.cells (ia ⟨3,pa,pb,pc,pk,ps⟩) 57)).alloc (.cells #[.int .i64 0,.int .i64 0] 81))=W0:=⟨_,rfl⟩
  rw[hW0] at HR0 HK0 HB0 x0 y0 ⊢
  clear hW0
  have HRd:Hid (aI W0.drew (W.heap.size+1+1) 81 #[.int .i64 0,.int .i64 0]):=HR0.o
  have HKd:Hid (aI W0.drew W.heap.size 23 (kd f d)):=HK0.o
  have HBd:=aC HB0.o.drew
  go_region_held3 (fun w'=>w'.cell? ⟨W.heap.size,0,none⟩=some (.int .i64 f)/\w'.cell? ⟨W.heap.size,1,none⟩=some (.int .i64 d))
   (first|exact⟨x0,y0⟩|exact⟨x3,y3⟩|exact⟨x4,y4⟩|exact⟨(aMc HK4.o (by omega) _ _).cell 0 rfl,(aMc HK4.o (by omega) _ _).cell 1 rfl⟩|go_keep)
   ((first
    | (go_at_call 38;refine(HLo.o _).mono ?_;rintro e w3 ⟨rfl,hb3⟩;have HR3:=aC (HRd.o.below hb3);have HK3:=aC (HKd.o.below hb3);have HB3:=aC (bel HBd.o hb3);clear hb3;obtain⟨x3,y3,-,-⟩:=bB HK3.o)
    | (go_at_call 39;refine(HHi.o _).mono ?_;rintro e w4 ⟨rfl,hb4⟩;have HR4:=aC (HR3.o.below hb4);have HK4:=aC (HK3.o.below hb4);have HB4:=aC (bel HB3.o hb4);clear hb4;obtain⟨x4,y4,-,-⟩:=bB HK4.o;obtain⟨g0,g1,g2,g3⟩:=bB HR4.o)))
  all_goals
   obtain⟨r0,r1,hB⟩:=qB HR4.o HB4.o (by omega) lo hi
   go_wp2
   exact bodyPost_ret (v:=.tuple #[.agg #[.int .i64 lo,.int .i64 hi],.int .i64 0]) (by simp[results,Tryz.results63,go_sem,r0,r1]) rfl ⟨rfl,hB⟩
theorem yin (f d:Int)(n:In){i sl sc:Nat}{a:Option Addr}{S:eH}{W:World}(ho:bJ n i=true)(h1:n.op≠1)(h2:n.op≠2)(h3:n.op≠3)(hS:Spn.Spans W a sl sc S)(hi:i<=sl) :
  Calls Tryz.prog 63 #[.agg (kd f d),.agg (ia n),.slice a sl sc] W fun e W'=>e=.returned (Spn.lH (jV f d S n))/\Below W.heap.size W W':=by
 have hsl:sl<=9223372036854775807:=by have:=hS.le;have:=hS.max;unfold maxLen at *;omega
 rw[show jV f d S n=Spn.rV n.op n.k n.s (uA S n) by unfold jV;rw[if_neg h1,if_neg h2,if_neg h3]]
 have HRg:=aC fun j hj=>Cde.oD ho (j:=j) hj
 have HSg:=aC fun j hj=>aB0 (S:=S) (n:=n) (k:=j) hj
 have HA3:=aC (Cde.lQ n)
 have HAb:=aC fun j (h:j < 3)=>Cde.rD n j h
 have HLl:=aC (yV S n)
 have HPO:=aC fun w=>Cde.vG n w
 have q1:(n.op==1)=false:=by simpa using h1
 have q2:(n.op==2)=false:=by simpa using h2
 have q3:(n.op==3)=false:=by simpa using h3
 generalize uA S n=L at *
 generalize dG n=k at *
 have hb1:=aH W (.cells (kd f d) 23)
 have hb2:=bel hb1 (aH (W.alloc (.cells (kd f d) 23)) (.cells (ia n) 57))
 have hb3:=bel hb2 (aH ((W.alloc (.cells (kd f d) 23)).alloc (.cells (ia n) 57)) (.cells #[.int .i64 0,.int .i64 0] 81))
 have HB0:=aC hb3
 have HN0:Hid (aI (((W.alloc (.cells (kd f d) 23)).alloc (.cells (ia n) 57)).alloc (.cells #[.int .i64 0,.int .i64 0] 81)) (W.heap.size+1) 57 (ia n)):=by
  have:=(aI.new (W.alloc (.cells (kd f d) 23)) 57 (ia n)).alloc (.cells #[.int .i64 0,.int .i64 0] 81)
  simp only[World.size_alloc] at this
  exact aC this
 have HR0:Hid (aI (((W.alloc (.cells (kd f d) 23)).alloc (.cells (ia n) 57)).alloc (.cells #[.int .i64 0,.int .i64 0] 81)) (W.heap.size+1+1) 81 #[.int .i64 0,.int .i64 0]):=by
  have:=aI.new ((W.alloc (.cells (kd f d) 23)).alloc (.cells (ia n) 57)) 81 #[.int .i64 0,.int .i64 0]
  simp only[World.size_alloc] at this
  exact aC this
 have HS0:=aC (hS.later hb3)
 clear hb1 hb2 hb3 hS ho h1 h2 h3
 go_enter Tryz.func63,Tryz.ntmps63
 go_wp2_with fail
 refine(HPO.o _).mono ?_
 rintro e V1 ⟨g,rfl,-,hG,hb⟩
 have HG:=aC hG
 have HR1:=aC (HR0.o.below hb)
 have HN1:=aC (HN0.o.below hb)
 have HB1:=aC (bel HB0.o hb)
 have HS1:=aC (HS0.o.later hb)
 have hgl:=hG.lt
 clear hG hb HR0 HN0 HB0 HS0 HPO
 go_wp2_with fail
 go_loopw [10,42] (fun v i wr=>∃ j:Nat,j<=k/\i=.int .i64 j/\Hid (Spn.Es V1 wr v j (L.take j))) (fun _ i _=>k-(intOf i).toNat)
 case atStart=>exact⟨0,Nat.zero_le _,rfl,aC (Spn.Es.start V1)⟩
 case round =>
  obtain⟨j,hj,rfl,HE⟩:=hrel
  rename World=>V
  by_cases hlt:j < k
  ·have h33:j < 3:=by have:=HA3.o;omega
   have cp:=(HG.o.below HE.o.bel).cell j (Cde.dS (abc n) j (by simp[abc];omega))
   rw[HAb.o j h33] at cp
   obtain⟨p0,p1⟩:=HRg.o j hlt
   have HT:=aC (HSg.o j hlt)
   obtain⟨q,hq⟩:∃ q:Nat,Cde.jS n j=(q:Int):=⟨(Cde.jS n j).toNat,by omega⟩
   rw[hq] at cp p1 HT
   simp only[Int.toNat_natCast] at p1 HT
   obtain⟨b,off,rfl,-,hcs⟩:=(HS1.o.later HE.o.bel).at (by omega)
   obtain⟨s0,s1⟩:=hcs q (by omega)
   generalize S.getD q (0,0)=sv at *
   obtain⟨lo,hi2⟩:=sv
   simp only at s0 s1
   have j0:(0:Int)<=j:=by omega
   have j1:(j:Int) < k:=by omega
   have j2:(j:Int) < 3:=by omega
   have i0:(0:Int)<=q:=by omega
   have i1:(q:Int) < sl:=by omega
   clear hcs p0 p1 hq
   go_wp2_with (at_builtin;refine Spn.xO (w:=V1) (L:=L.take j) rfl _ _ rfl rfl (HE.o.alloc _) _ lo hi2 rfl (Spn.aI.new _ _ _) (by omega) ?_;intro g2 cap2 w2 HE2 hsz)
   go_roundw
   case rel=>exact⟨j+1,by omega,by go_num,aC (by rw[HT.o];exact HE2)⟩
   case measure=>simp[intOf];omega
  ·obtain rfl:j=k:=by omega
   have e:L.take j=L:=List.take_of_length_le (by rw[HLl.o];exact Nat.le_refl _)
   have HE1:=HE.o
   rw[e] at HE1
   obtain⟨va,vc,rfl,hA⟩:=Spn.Spans.of_owns HE1.a HLl.o
   have HOf:=aC (Spn.aOy n.op n.k n.s _ _ _ _ _ hA)
   have HR2:=aC (HR1.o.below HE1.bel)
   have HB2:=aC (bel HB1.o HE1.bel)
   obtain⟨x0,-,-,-,x4,x5⟩:=aJ (HN1.o.below HE1.bel)
   obtain⟨⟨⟨lo,hi2⟩,er⟩,hZ⟩:∃ Z,Spn.rV n.op n.k n.s L=Z:=⟨_,rfl⟩
   rw[hZ] at HOf
   have HZ:=aC hZ
   clear hZ hA e HE HE1
   go_wp2_with fail
   refine HOf.o.mono ?_
   rintro e V2 ⟨rfl,hb⟩
   have HR3:=aC (HR2.o.below hb)
   have HB3:=aC (bel HB2.o hb)
   obtain⟨g0,g1,g2,g3⟩:=bB HR3.o
   clear hb
   go_wp2_with fail
   obtain⟨r0,r1,hB⟩:=qB HR3.o HB3.o (by omega) lo hi2
   exact bodyPost_ret (v:=.tuple #[.agg #[.int .i64 lo,.int .i64 hi2],.int .i64 er]) (by simp[results,Tryz.results63,go_sem,r0,r1]) rfl ⟨by rw[HZ.o],hB⟩
theorem aFm (f d:Int){n:In}{i sl sc:Nat}{a:Option Addr}{S:eH}{W:World}(ho:bJ n i=true)(hS:Spn.Spans W a sl sc S)(hi:i<=sl) :
  Calls Tryz.prog 63 #[.agg (kd f d),.agg (ia n),.slice a sl sc] W fun e W'=>e=.returned (Spn.lH (jV f d S n))/\Below W.heap.size W W':=by
 by_cases h:n.op=1\/n.op=2\/n.op=3
 ·exact aRo f d n a sl sc h S W
 ·exact yin f d n ho (by omega) (by omega) (by omega) hS hi
end Go.Proofs.Vfy
