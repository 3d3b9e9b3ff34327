import Derived.Test.YtihbhbeaihdgnaaGreatXH
import Derived.Laws.MakeOwn
import Derived.Deep.RegionHeld3
import Derived.Test.YtihbhbeaihdgnaaGreatX22
import Derived.Test.YtihbhbeaihdgnaaGreatX19
import Derived.Test.YtihbhbeaihdgnaaGreatX10
set_option maxRecDepth 100000
set_option maxHeartbeats 32000000
set_option linter.unusedVariables false
namespace Go.Proofs.Vfy
open Go.RowKit Go.IntWalk Knd
open Cde (In i0 dN bY bB dX jW eH jE)
variable {d f out:Int} {L:List In} {k:Nat} {n:In}
abbrev dM:=List (Int × Int)
def vI (S:dM)(n:In):dM:=(dN n).map fun r=>S.getD r.toNat (0,0)
def jZ (f d:Int)(S:dM)(n:In):(Int × Int) × Int :=
 if n.op=1 then((n.k,n.k),0) else if n.op=2 then((fM f d n.k).getD (0,0),0) else if n.op=3 then((dR f d,bH f d),0) else Spn.ofZ n.op n.k n.s (vI S n)
def yU (f d:Int)(s:Int × dM)(n:In):Int × dM :=
 if s.1=0 then(if (jZ f d s.2 n).2=0 then(0,s.2++[(jZ f d s.2 n).1]) else((jZ f d s.2 n).2,[])) else s
def gP (f d:Int)(L:List In):Int × dM:=L.foldl (yU f d) (0,[])
theorem iM (f d:Int)(L:List In)(n:In):gP f d (L++[n])=yU f d (gP f d L) n:=by simp[gP]
theorem uI (f d:Int):∀(L:List In) (s:Int × dM),s.1≠0->L.foldl (yU f d) s=s
 | [],s,h=>rfl
 | n::L,s,h=>by
  rw[List.foldl_cons,show yU f d s n=s by rw[yU,if_neg h]]
  exact uI f d L s h
theorem aH1 (f d:Int)(A B:List In):gP f d (A++B)=B.foldl (yU f d) (gP f d A):=by rw[gP,List.foldl_append];rfl
theorem aCi {e:Int × dM}(h:gP f d (L.take k)=e)(he:e.1≠0):gP f d L=e:=by
 have:gP f d L=(L.drop k).foldl (yU f d) (gP f d (L.take k)):=by
  rw[<-aH1,List.take_append_drop]
 rw[this,h,uI f d _ _ he]
theorem sU (f d:Int)(L:List In):∀ k,k<=L.length->(gP f d (L.take k)).1=0->(gP f d (L.take k)).2.length=k
 | 0,_,_=>by simp[gP]
 | k+1,h,he=>by
  have ih:=sU f d L k (by omega)
  rw[Cde.aH i0 (by omega),iM] at he ⊢
  unfold yU at he ⊢
  split at he
  ·rename_i h0
   rw[if_pos h0]
   split at he
   ·rename_i h1
    rw[if_pos h1]
    simp[ih h0]
   ·rename_i h1
    exact absurd he h1
  ·rename_i h0
   exact absurd he h0
theorem aH0 {S:dM}(h:gP f d L=(0,S)):S.length=L.length:=by
 have:=sU f d L L.length (Nat.le_refl _)
 rw[List.take_length,h] at this
 exact this rfl
theorem aDj {S Z:dM}{i:Nat}(h:i < S.length):(S++Z).getD i (0,0)=S.getD i (0,0):=by
 rw[List.getD_eq_getElem?_getD,List.getElem?_append_left h,<-List.getD_eq_getElem?_getD]
theorem nY {i:Nat}(h:bB n i=true){r:Int}(hr:r ∈ dN n):0<=r/\r.toNat < i:=by
 obtain⟨j,hj,rfl⟩:=List.getElem_of_mem hr
 rw[Cde.fO] at hj
 have:=Cde.qQ h hj
 rw[<-Cde.qL n j hj,List.getD_eq_getElem?_getD,List.getElem?_eq_getElem (by rw[Cde.fO];exact hj)] at this
 exact this
theorem aO3 {S Z:dM}(h:bB n S.length=true):vI (S++Z) n=vI S n:=by
 unfold vI
 apply List.map_congr_left
 intro r hr
 exact aDj (nY h hr).2
theorem aCj {S Z:dM}(h:bB n S.length=true):jZ f d (S++Z) n=jZ f d S n:=by
 rw[jZ,jZ,aO3 h]
def nU (f d:Int)(n:In):Bool:=n.op==3&&decide (bL f d<=n.k)
theorem aOu (hk:k < L.length)(h:(L.take k).any (nU f d)=false)(h2:nU f d (L.getD k i0)=false):(L.take (k+1)).any (nU f d)=false:=by
 rw[Cde.aH i0 hk,List.any_append,h,List.any_cons,h2];rfl
theorem aSi (hk:k < L.length)(h2:nU f d (L.getD k i0)=true):L.any (nU f d)=true:=by
 rw[List.any_eq_true]
 exact⟨L.getD k i0,Cde.oH i0 hk,h2⟩
def myE (f d:Int)(L:List In)(out:Int):Int:=if jW f d L out=true then(if L.any (nU f d)=true then 11 else 0) else 15
def aZ (f d:Int)(L:List In)(out:Int):Int :=
 if myE f d L out≠0 then myE f d L out else if (gP f d L).1≠0 then(gP f d L).1 else if 200 < eH L then 14 else 0
def rC (f d:Int)(L:List In)(out:Int):Nat:=if aZ f d L out=0 then L.length else 0
def rA (f d:Int)(L:List In)(out:Int):Int:=if aZ f d L out=0 then eH L else 0
def rH (f d:Int)(L:List In)(out:Int):dM:=if aZ f d L out=0 then(gP f d L).2 else[]
theorem vN :myE f d L out=0↔jW f d L out=true/\L.any (nU f d)=false:=by
 unfold myE
 constructor
 ·intro h
  split at h
  ·rename_i h1
   split at h
   ·omega
   ·rename_i h2
    exact⟨h1,by simpa using h2⟩
  ·omega
 ·rintro⟨h1,h2⟩
  rw[if_pos h1,if_neg (by simp[h2])]
theorem aC0 :aZ f d L out=0↔myE f d L out=0/\(gP f d L).1=0/\eH L<=200:=by
 unfold aZ
 constructor
 ·intro h
  split at h
  ·rename_i h1;exact absurd h h1
  ·rename_i h1
   split at h
   ·rename_i h2;exact absurd h h2
   ·rename_i h2
    split at h
    ·omega
    ·exact⟨by simpa using h1,by simpa using h2,by omega⟩
 ·rintro⟨h1,h2,h3⟩
  rw[if_neg (by simpa using h1),if_neg (by simpa using h2),if_neg (by omega)]
theorem aL (h:aZ f d L out=0):jW f d L out=true/\L.any (nU f d)=false/\(∃ S,gP f d L=(0,S)/\S.length=L.length/\rH f d L out=S)/\eH L<=200/\rC f d L out=L.length/\rA f d L out=eH L:=by
 obtain⟨h1,h2,h3⟩:=aC0.1 h
 obtain⟨h4,h5⟩:=vN.1 h1
 have e:gP f d L=(0,(gP f d L).2):=Prod.ext h2 rfl
 exact⟨h4,h5,⟨_,e,aH0 e,by rw[rH,if_pos h]⟩,h3,by rw[rC,if_pos h],by rw[rA,if_pos h]⟩
theorem aR7 (h:aZ f d L out≠0):rC f d L out=0/\rA f d L out=0/\rH f d L out=[]:=by
 refine⟨by rw[rC,if_neg h],by rw[rA,if_neg h],by rw[rH,if_neg h]⟩
end Go.Proofs.Vfy
namespace Go.Proofs.Vfy
open Go.RowKit Go.IntWalk Knd
open YtihbhbeaihdgnaaGreat (Wd fD Fits inpV)
open Cde (In i0 dN bY bB dX jW eH jE dA tN oW iR iA)
variable {V:List Int} {d f:Int} {v:Wd} {L:List In}
abbrev w32 (x:Int):Prop:=-2147483648<=x/\x<=2147483647
def tH (V:List Int)(S:dM):Prop:=V.length=S.length/\∀ i,i < S.length->(S.getD i (0,0)).1<=V.getD i 0/\V.getD i 0<=(S.getD i (0,0)).2/\w32 (V.getD i 0)
theorem tH.snoc {S:dM}{x:Int}{p:Int × Int}(h:tH V S)(h1:p.1<=x)(h2:x<=p.2)(h3:w32 x):tH (V++[x]) (S++[p]):=by
 have hl:=h.1
 refine⟨by simp[hl],fun i hi=>?_⟩
 simp only[List.length_append,List.length_cons,List.length_nil] at hi
 by_cases e:i < S.length
 ·rw[aDj e,Cde.cK (by omega)]
  exact h.2 i e
 ·have e2:i=S.length:=by omega
  subst e2
  rw[show (S++[p]).getD S.length (0,0)=p by simp[List.getD_eq_getElem?_getD],show (V++[x]).getD S.length 0=x by rw[<-hl];simp[List.getD_eq_getElem?_getD]]
  exact⟨h1,h2,h3⟩
theorem tH.ins {V:List Int}{S:dM}(h:tH V S):∀(P:List Int),(∀ p ∈ P,p.toNat < S.length)->Spn.Ins (P.map fun p=>V.getD p.toNat 0) (P.map fun p=>S.getD p.toNat (0,0))
 | [],_=>trivial
 | p::P,hp=>by
  obtain⟨h1,h2,-⟩:=h.2 p.toNat (hp p (by simp))
  exact⟨⟨h1,h2⟩,tH.ins h P fun q hq=>hp q (by simp[hq])⟩
theorem iV (f d:Int):w32 (dR f d)/\w32 (bH f d)/\w32 (aW f d):=by
 rcases kQ f d with⟨hm,rfl⟩|⟨hm,rfl⟩|hm
 ·have:=kU (d-1) (by have:=hm.2.2;omega)
  obtain⟨a,b,c,-⟩:=zs0 hm
  rw[a,b,c];unfold w32;omega
 ·have:=kU (d-1) (by have:=hm.2.2;omega)
  obtain⟨a,b,c,-⟩:=zs1 hm
  rw[a,b,c];unfold w32;omega
 ·obtain⟨a,b,c,-⟩:=zs2 hm
  rw[a,b,c];unfold w32;omega
theorem vU {op k s x:Int}{xs:List Int}(h:Spn.bK op k s xs=(x,0)):w32 x:=by
 unfold Spn.bK at h
 split at h
 ·split at h
  ·split at h
   ·rename_i hw
    cases h
    exact Spn.dE.1 hw
   ·cases h
  ·rename_i h1
   exact absurd (congrArg Prod.snd h) h1
 ·cases h
theorem aBa (f:Int):kJ f<=2147483647/\kW f<=2147483647:=by
 unfold kJ kW
 constructor <;> (repeat' split) <;> omega
theorem aFu {k:Int}(hm:May f d)(hF:Fits f d v)(h0:0<=k)(h5:k<=5):((fM f d k).getD (0,0)).1<=inpV f d v k/\inpV f d v k<=((fM f d k).getD (0,0)).2/\w32 (inpV f d v k):=by
 obtain⟨⟨⟨⟨a1,a2,e1,g1,g2⟩,⟨b1,b2,e2,g3,g4⟩⟩,⟨c1,c2,e3,g5,g6⟩⟩,-⟩:=hF
 obtain⟨w1,w2,w3⟩:=iV f d
 have hcr:=aBa f
 rcases(show k=0\/k=1\/k=2\/k=3\/k=4\/k=5 by omega) with rfl|rfl|rfl|rfl|rfl|rfl
 ·rw[e1]
  have e:fM f d 0=some (0,kJ f-1):=by unfold fM;rw[if_neg (by simpa using hm)];rfl
  rw[e] at e1
  cases e1
  exact⟨g1,g2,by show w32 v.x;unfold w32;omega⟩
 ·rw[e2]
  have e:fM f d 1=some (0,kW f-1):=by unfold fM;rw[if_neg (by simpa using hm)];rfl
  rw[e] at e2
  cases e2
  exact⟨g3,g4,by show w32 v.y;unfold w32;omega⟩
 ·rw[e3]
  have e:fM f d 2=some (0,3):=by unfold fM;rw[if_neg (by simpa using hm)];rfl
  rw[e] at e3
  cases e3
  exact⟨g5,g6,by show w32 v.c;unfold w32;omega⟩
 ·have e:fM f d 3=some (dR f d,dR f d):=by unfold fM;rw[if_neg (by simpa using hm)];rfl
  rw[e];exact⟨Int.le_refl _,Int.le_refl _,w1⟩
 ·have e:fM f d 4=some (bH f d,bH f d):=by unfold fM;rw[if_neg (by simpa using hm)];rfl
  rw[e];exact⟨Int.le_refl _,Int.le_refl _,w2⟩
 ·have e:fM f d 5=some (aW f d,aW f d):=by unfold fM;rw[if_neg (by simpa using hm)];rfl
  rw[e];exact⟨Int.le_refl _,Int.le_refl _,w3⟩
theorem aV4 {S:dM}{n:In}(hm:May f d)(hF:Fits f d v)(hI:tH V S)(ho:bB n S.length=true)(ha:nU f d n=false)(h:(jZ f d S n).2=0) :
  (dA f d v V n).2=0/\(jZ f d S n).1.1<=(dA f d v V n).1/\(dA f d v V n).1<=(jZ f d S n).1.2/\w32 (dA f d v V n).1:=by
 have hc:=Cde.qP ho
 unfold dA
 unfold jZ at h ⊢
 by_cases h1:n.op=1
 ·rw[if_pos h1] at h ⊢
  rw[if_pos h1]
  rw[Cde.nG,if_pos h1,Bool.and_eq_true,Spn.dE] at hc
  exact⟨rfl,Int.le_refl _,Int.le_refl _,hc.1⟩
 rw[if_neg h1] at h ⊢
 rw[if_neg h1]
 by_cases h2:n.op=2
 ·rw[if_pos h2] at h ⊢
  rw[if_pos h2]
  rw[Cde.nG,if_neg h1,if_pos h2,Bool.and_eq_true,Spn.aO] at hc
  exact⟨rfl,aFu hm hF hc.1.1 hc.1.2⟩
 rw[if_neg h2] at h ⊢
 rw[if_neg h2]
 by_cases h3:n.op=3
 ·rw[if_pos h3] at h ⊢
  rw[if_pos h3]
  rw[Cde.nG,if_neg h1,if_neg h2,if_pos h3,Bool.and_eq_true,Spn.aO] at hc
  have hk:¬bL f d<=n.k:=by
   intro hk
   have:nU f d n=true:=by unfold nU;rw[h3];simpa using hk
   rw[this] at ha;cases ha
  rw[if_neg hk]
  have hfl:=Cde.aHc hF
  have hl:n.k.toNat < v.ps.length:=by omega
  have hmem:=hF.2.2 (v.ps.getD n.k.toNat 0) (Cde.oH 0 hl)
  obtain⟨w1,w2,-⟩:=iV f d
  exact⟨rfl,hmem.1,hmem.2,by unfold w32 at *;dsimp only;omega⟩
 rw[if_neg h3] at h ⊢
 rw[if_neg h3]
 obtain⟨x,h5,h6,h7⟩:=Spn.tV (Prod.ext rfl h:Spn.ofZ n.op n.k n.s (vI S n)=((_,_),0)) (hI.ins (dN n) fun p hp=>(nY ho hp).2)
 have e:Spn.bK n.op n.k n.s (iA V n)=(x,0):=h5
 rw[e]
 exact⟨rfl,h6,h7,vU h5⟩
theorem dZ (h:L.any (nU f d)=false){k:Nat}(hk:k < L.length):nU f d (L.getD k i0)=false:=by
 cases hb:nU f d (L.getD k i0)
 ·rfl
 ·rw[aSi hk hb] at h;cases h
theorem rD {f d:Int}{v:Wd}{L:List In}(hm:May f d)(hF:Fits f d v)(hok:dX L L.length=true)(ha:L.any (nU f d)=false)(h0:(gP f d L).1=0) :
  ∀ k,k<=L.length->∃ V S,oW f d v (L.take k)=(0,V)/\gP f d (L.take k)=(0,S)/\tH V S
 | 0,_=>⟨[],[],rfl,rfl,rfl,fun i hi=>by simp at hi⟩
 | k+1,hk=>by
  obtain⟨V,S,h1,h2,h3⟩:=rD hm hF hok ha h0 k (by omega)
  have hl:S.length=k:=by
   have:=sU f d L k (by omega)
   rw[h2] at this
   exact this rfl
  have ho:=Cde.dD hok (show k < L.length by omega)
  rw[<-hl] at ho
  have hz:(jZ f d S (L.getD k i0)).2=0:=by
   by_cases hz:(jZ f d S (L.getD k i0)).2=0
   ·exact hz
   ·have e:gP f d (L.take (k+1))=((jZ f d S (L.getD k i0)).2,[]):=by
     rw[Cde.aH i0 (by omega),iM,h2,yU,if_pos rfl,if_neg hz]
    have:=aCi e hz
    rw[this] at h0
    exact absurd h0 hz
  rw[hl] at ho
  obtain⟨a,b,c,e⟩:=aV4 hm hF h3 (by rw[hl];exact ho) (dZ ha (by omega)) hz
  refine⟨V++[(dA f d v V (L.getD k i0)).1],S++[(jZ f d S (L.getD k i0)).1],?_,?_,h3.snoc b c e⟩
  ·rw[Cde.aH i0 (by omega),Cde.eF,h1,tN,if_pos rfl,if_pos a]
  ·rw[Cde.aH i0 (by omega),iM,h2,yU,if_pos rfl,if_pos hz]
theorem aKx {n:In}{i:Nat}(h:bB n i=true):1<=jE n.op:=by
 have h4:n.op≠4:=by
  intro e
  have:=Cde.aAn h
  rw[e] at this
  exact absurd this (by decide)
 unfold jE
 rw[if_neg h4]
 repeat' split
 all_goals omega
theorem aSn {L:List In}(hok:dX L L.length=true):∀ k:Nat,k<=L.length->(k:Int)<=eH (L.take k)
 | 0,_=>by simp[eH]
 | k+1,hk=>by
  have ih:=aSn hok k (by omega)
  have:=aKx (Cde.dD hok (show k < L.length by omega))
  rw[Cde.aH i0 (by omega),Cde.gD]
  omega
theorem yN {out:Int}(h:aZ f d L out=0):(L.length:Int)<=eH L/\eH L<=200/\∀ v:Wd,Fits f d v->∃ V,iR f d v L out=(0,V)/\tH V (rH f d L out):=by
 obtain⟨m,ha,⟨S,hS,hl,hs⟩,hc,-,-⟩:=aL h
 obtain⟨hm,-,-,-,-,hok⟩:=Cde.aT m
 refine⟨?_,hc,fun v hF=>?_⟩
 ·have:=aSn hok L.length (Nat.le_refl _)
  rwa[List.take_length] at this
 ·obtain⟨V,S',h1,h2,h3⟩:=rD hm hF hok ha (by rw[hS]) L.length (Nat.le_refl _)
  rw[List.take_length] at h1 h2
  rw[hS] at h2
  cases h2
  refine⟨V,?_,by rw[hs];exact h3⟩
  rw[iR,if_pos m,if_pos hF]
  exact h1
theorem tF {out:Int}(h:aZ f d L out=0)(hF:¬Fits f d v):iR f d v L out=(1,[]):=by
 obtain⟨m,-⟩:=aL h
 rw[iR,if_pos m,if_neg hF]
end Go.Proofs.Vfy
namespace Go.Proofs.Vfy
open Go.RowKit Go.IntWalk Knd
variable {W w:World} {b g k r:Nat} {t:TypeId} {cs:Array Value} {p q:Value}
abbrev jM:Array Value:=#[.slice none 0 0,.int .i64 0,.int .i64 0]
abbrev lL (L:dM):Array Value:=(Spn.jN L).toArray
theorem kC (L:dM)(i:Nat)(h:i < L.length):(lL L)[i*2]?=some (.int .i64 (L.getD i (0,0)).1)/\(lL L)[i*2+1]?=some (.int .i64 (L.getD i (0,0)).2):=by
 unfold lL
 rw[List.getElem?_toArray,List.getElem?_toArray]
 exact Spn.sW L i h
theorem aBv (n:Nat):madeCells #[.int .i64 0,.int .i64 0] (n*2)=lL (List.replicate n (0,0)):=by
 apply Array.ext_getElem?
 intro i
 by_cases hi:i < n*2
 ·have h1:(madeCells #[.int .i64 0,.int .i64 0] (n*2))[i]?=some (.int .i64 0):=by
   unfold madeCells
   rw[Array.getElem?_map,Array.getElem?_eq_getElem (by simpa using hi)]
   simp only[Array.getElem_range,Option.map_some]
   rcases(show i % 2=0\/i % 2=1 by omega) with h|h <;> (show some ((#[Value.int .i64 0,.int .i64 0])[i % 2]!)=_;rw[h];rfl)
  rw[h1]
  obtain⟨a,b⟩:=kC (List.replicate n (0,0)) (i / 2) (by simp;omega)
  have hz:(List.replicate n ((0:Int),(0:Int))).getD (i / 2) (0,0)=(0,0):=by
   rw[List.getD_eq_getElem?_getD,List.getElem?_replicate];split <;> rfl
  rw[hz] at a b
  rcases(show i % 2=0\/i % 2=1 by omega) with h|h
  ·rw[show i=i / 2*2 by omega];exact a.symm
  ·rw[show i=i / 2*2+1 by omega];exact b.symm
 ·rw[Array.getElem?_eq_none (by rw[size_madeCells];omega),Array.getElem?_eq_none (by simp[Spn.gJ];omega)]
theorem aBx (n:Nat)(h:n<=1024)(w:World):(Instr.makeSlice 33 (.int .i64 n) (.int .i64 n)).run Tryz.prog w=.ok (.slice (some ⟨w.heap.size,0,none⟩) n n) (w.alloc (.cells (lL (List.replicate n (0,0))) 74)):=by
 obtain⟨i0,hi,hz0,hz1,hz2⟩:=Spn.info_parts Spn.aFt
 have:=run_make w 33 74 i0 _ Tryz.underlying33 hi hz0 .i64 .i64 n n (by omega) (Int.le_refl _) (by rw[hz2];omega) (by omega)
 rw[hz1] at this
 simp only[Int.toNat_natCast] at this
 have e:madeCells (Value.agg #[.int .i64 0,.int .i64 0]).cells (n*2)=lL (List.replicate n (0,0)):=aBv n
 rw[e] at this
 exact this
theorem aGh (S Z:dM)(p q:Int × Int):((lL (S++q::Z)).setIfInBounds (S.length*2) (.int .i64 p.1)).setIfInBounds (S.length*2+1) (.int .i64 p.2)=lL (S++p::Z):=by
 apply Array.toList_inj.1
 simp only[Array.toList_setIfInBounds]
 have e:∀ r:Int × Int,Spn.jN (S++r::Z)=Spn.jN S++(.int .i64 r.1::.int .i64 r.2::Spn.jN Z):=fun r=>by simp[Spn.jN]
 rw[e,e,List.set_append_right _ _ (by rw[Spn.gJ];omega),List.set_append_right _ _ (by rw[Spn.gJ];omega),Spn.gJ]
 simp
theorem pY {L:dM}(h:aB W g 74 (lL L))(hl:L.length<=1024):Spn.Spans W (some ⟨g,0,none⟩) L.length L.length L:=by
 refine⟨rfl,Nat.le_refl _,by unfold maxLen;omega,(fun e=>by cases e),.inr ⟨g,0,rfl,fun i hi=>?_⟩⟩
 obtain⟨a,b⟩:=kC L i hi
 rw[Nat.zero_add]
 exact⟨h.cell (i*2) a,h.cell (i*2+1) b⟩
theorem aCe {S Z:dM}{q:Int × Int}(h:aB W g 74 (lL (S++q::Z)))(hk:S.length=k)(x y:Int):aB ((W.setCell ⟨g,k*2,none⟩ (.int .i64 x)).setCell ⟨g,k*2+1,none⟩ (.int .i64 y)) g 74 (lL (S++(x,y)::Z)):=by
 subst hk
 have:=(h.set (S.length*2) (.int .i64 x)).set (S.length*2+1) (.int .i64 y)
 rwa[show ((lL (S++q::Z)).setIfInBounds (S.length*2) (.int .i64 x)).setIfInBounds (S.length*2+1) (.int .i64 y)=lL (S++(x,y)::Z) from aGh S Z (x,y) q] at this
theorem xW {n:Nat}(h:k < n):List.replicate (n-k) ((0:Int),(0:Int))=(0,0)::List.replicate (n-(k+1)) (0,0):=by
 rw[show n-k=(n-(k+1))+1 by omega,List.replicate_succ]
theorem aAp (h:aB W b t cs)(hr:b≠r)(x y:Value):aB ((W.setCell ⟨r,k*2,none⟩ x).setCell ⟨r,k*2+1,none⟩ y) b t cs:=(h.other (p:=⟨r,k*2,none⟩) hr x).other (p:=⟨r,k*2+1,none⟩) hr y
theorem aQ {x y:Value}(h:aB W b t #[x,y]):W.cell? ⟨b,0,none⟩=some x/\W.cell? ⟨b,1,none⟩=some y/\W.frozen? ⟨b,0,none⟩=false/\W.frozen? ⟨b,1,none⟩=false :=
 ⟨h.cell 0 rfl,h.cell 1 rfl,h.frozen 0,h.frozen 1⟩
theorem nM {w2:World}(h:aB w2 b t #[p,q])(hB:Below w.heap.size w w2)(hb:w.heap.size<=b)(x y:Int) :
  ((w2.setCell ⟨b,0,none⟩ (.int .i64 x)).setCell ⟨b,1,none⟩ (.int .i64 y)).cell? ⟨b,0,none⟩=some (.int .i64 x)/\((w2.setCell ⟨b,0,none⟩ (.int .i64 x)).setCell ⟨b,1,none⟩ (.int .i64 y)).cell? ⟨b,1,none⟩=some (.int .i64 y) /\
  Below w.heap.size w ((w2.setCell ⟨b,0,none⟩ (.int .i64 x)).setCell ⟨b,1,none⟩ (.int .i64 y)) :=
 Spn.aI h hB hb x y
theorem aMv (h:aB W b t cs)(hr:b≠r)(x y:Value):aB ((W.setCell ⟨r,0,none⟩ x).setCell ⟨r,1,none⟩ y) b t cs:=(h.other (p:=⟨r,0,none⟩) hr x).other (p:=⟨r,1,none⟩) hr y
theorem set2 (h:aB W b t #[p,q])(x y:Value):aB ((W.setCell ⟨b,0,none⟩ x).setCell ⟨b,1,none⟩ y) b t #[x,y]:=(h.set 0 x).set 1 y
theorem iP {x y z:Value}(h:aB W b t #[x,y,z]):W.cell? ⟨b,0,none⟩=some x/\W.cell? ⟨b,1,none⟩=some y/\W.cell? ⟨b,2,none⟩=some z/\W.frozen? ⟨b,0,none⟩=false/\W.frozen? ⟨b,1,none⟩=false/\W.frozen? ⟨b,2,none⟩=false :=
 ⟨h.cell 0 rfl,h.cell 1 rfl,h.cell 2 rfl,h.frozen 0,h.frozen 1,h.frozen 2⟩
theorem fA {w2:World}{r:Value}(h:aB w2 b t #[p,q,r])(hB:Below w.heap.size w w2)(hb:w.heap.size<=b)(x y z:Value) :
  aB (((w2.setCell ⟨b,0,none⟩ x).setCell ⟨b,1,none⟩ y).setCell ⟨b,2,none⟩ z) b t #[x,y,z] /\
  Below w.heap.size w (((w2.setCell ⟨b,0,none⟩ x).setCell ⟨b,1,none⟩ y).setCell ⟨b,2,none⟩ z) :=
 ⟨((h.set 0 x).set 1 y).set 2 z,((hB.setCell (p:=⟨b,0,none⟩) hb _).setCell (p:=⟨b,1,none⟩) hb _).setCell (p:=⟨b,2,none⟩) hb _⟩
theorem oN (h:aB W b t cs)(hr:b≠r)(x y z:Value):aB (((W.setCell ⟨r,0,none⟩ x).setCell ⟨r,1,none⟩ y).setCell ⟨r,2,none⟩ z) b t cs :=
 ((h.other (p:=⟨r,0,none⟩) hr x).other (p:=⟨r,1,none⟩) hr y).other (p:=⟨r,2,none⟩) hr z
theorem aGl (W:World):Spn.Spans W none 0 0 []:=⟨rfl,Nat.le_refl _,by unfold maxLen;omega,fun _=>rfl,.inl rfl⟩
def Own (z n:Nat)(a:Option Addr)(V:World):Prop:=n=0\/∃ g cs,a=some ⟨g,0,none⟩/\z<=g/\aB V g 74 cs/\cs.size=2*n
def RpP (own:Bool)(w:World)(n:Nat)(co er:Int)(S:dM)(e:Ending)(W':World):Prop :=
 ∃ a cap,e=.returned (.tuple #[.agg #[.slice a n cap,.int .i64 co,.int .i64 0],.int .i64 er])/\Spn.Spans W' a n cap S/\Below w.heap.size w W'/\(∀ b off,a=some ⟨b,off,none⟩->w.heap.size<=b)/\(own=true->Own w.heap.size n a W')
theorem RpP.no {own:Bool}{W':World}{er:Int}(hb:Below w.heap.size w W'):RpP own w 0 0 er [] (.returned (.tuple #[.agg jM,.int .i64 er])) W' :=
 ⟨none,0,rfl,aGl _,hb,fun b off h=>by simp at h,fun _=>.inl rfl⟩
theorem RpP.row {W':World}{S:dM}{n:Nat}{co:Int}(hg:aB W' g 74 (lL S))(hn:S.length=n)(h0:w.heap.size<=g)(hl:n<=1024)(hb:Below w.heap.size w W'):RpP true w n co 0 S (.returned (.tuple #[.agg #[.slice (some ⟨g,0,none⟩) n n,.int .i64 co,.int .i64 0],.int .i64 0])) W':=by
 subst hn
 exact⟨_,_,rfl,pY hg hl,hb,fun b off h=>by cases h;exact h0,fun _=>.inr ⟨g,_,rfl,h0,hg,by simp[Spn.gJ];omega⟩⟩
end Go.Proofs.Vfy
namespace Go.Proofs.Vfy
open Go.RowKit Go.IntWalk Knd
open Cde (In i0 ia kd dN bY bB zA abc tO aJ aK)
theorem aG1 (S:dM)(n:In):(vI S n).length=bY n:=by rw[vI,List.length_map,Cde.fO]
theorem aKk {S:dM}{n:In}{k:Nat}(hk:k < bY n):(vI S n).take (k+1)=(vI S n).take k++[S.getD (Cde.nW n k).toNat (0,0)]:=by
 rw[Cde.aH (0,0) (by rw[aG1];exact hk),<-Cde.qL n k hk]
 congr 2
 simp[vI,List.getD_eq_getElem?_getD,List.getElem?_map,List.getElem?_eq_getElem (show k < (dN n).length by rw[Cde.fO];exact hk)]
theorem aX3 (f d:Int)(n:In)(a:Option Addr)(sl sc:Nat)(h:n.op=1\/n.op=2\/n.op=3)(S:dM)(W:World) :
  Calls Tryz.prog 78 #[.agg (kd f d),.agg (ia n),.slice a sl sc] W fun e W'=>e=.returned (Spn.spV (jZ f d S n))/\Below W.heap.size W W':=by
 obtain⟨o,pa,pb,pc,pk,ps⟩:=n
 simp only at h
 have hb1:=aC W (.cells (kd f d) 23)
 have hb2:=bel hb1 (aC (W.alloc (.cells (kd f d) 23)) (.cells (ia ⟨o,pa,pb,pc,pk,ps⟩) 41))
 have hb3:=bel hb2 (aC ((W.alloc (.cells (kd f d) 23)).alloc (.cells (ia ⟨o,pa,pb,pc,pk,ps⟩) 41)) (.cells #[.int .i64 0,.int .i64 0] 74))
 have HB0:=aA hb3
 have HBk:=aA hb2
 have HK0:=aA (((aB.new W 23 (kd f d)).alloc (.cells (ia ⟨o,pa,pb,pc,pk,ps⟩) 41)).alloc (.cells #[.int .i64 0,.int .i64 0] 74))
 have HR0:Hid (aB (((W.alloc (.cells (kd f d) 23)).alloc (.cells (ia ⟨o,pa,pb,pc,pk,ps⟩) 41)).alloc (.cells #[.int .i64 0,.int .i64 0] 74)) (W.heap.size+1+1) 74 #[.int .i64 0,.int .i64 0]):=by
  have:=aB.new ((W.alloc (.cells (kd f d) 23)).alloc (.cells (ia ⟨o,pa,pb,pc,pk,ps⟩) 41)) 74 #[.int .i64 0,.int .i64 0]
  simp only[World.size_alloc] at this
  exact aA this
 clear hb1 hb2 hb3
 rcases h with rfl|rfl|rfl
 ·rw[show jZ f d S ⟨1,pa,pb,pc,pk,ps⟩=((pk,pk),0) from rfl]
  go_enter Tryz.func78,Tryz.ntmps78
  go_wp2
  exact bodyPost_ret (v:=.tuple #[.agg #[.int .i64 pk,.int .i64 pk],.int .i64 0]) (by simp[results,Tryz.results78,go_sem]) rfl ⟨rfl,bel HBk.o (aC _ _)⟩
 ·rw[show jZ f d S ⟨2,pa,pb,pc,pk,ps⟩=((fM f d pk).getD (0,0),0) from rfl]
  have HI:=aA fun w=>fQ f d pk w
  unfold qE at HI
  obtain⟨⟨lo,hi⟩,hp⟩:∃ p,(fM f d pk).getD (0,0)=p:=⟨_,rfl⟩
  rw[hp] at HI ⊢
  generalize (fM f d pk).isSome=q at HI
  clear hp
  go_enter Tryz.func78,Tryz.ntmps78
  go_wp2_with fail
  refine(HI.o _).mono ?_
  rintro e V1 ⟨rfl,hb⟩
  have HB1:=aA (bel HB0.o hb)
  have hz:=(HR0.o.below hb).lt
  obtain⟨-,-,hB⟩:=nM (HR0.o.below hb) HB1.o (by omega) lo hi
  have h3:=(set2 (HR0.o.below hb) (.int .i64 lo) (.int .i64 hi)).alloc (.cells #[.int .i64 lo,.int .i64 hi] 74)
  have r0:=h3.cell 0 rfl
  have r1:=h3.cell 1 rfl
  have HB2:=aA (bel hB (aC _ (.cells #[.int .i64 lo,.int .i64 hi] 74)))
  have HR2:=aA r0
  have HR3:=aA r1
  clear r0 r1 h3 hB
  obtain⟨c0,c1,c2,c3⟩:=aQ (HR0.o.below hb)
  clear hb
  go_wp2_with fail
  have r0:=HR2.o
  have r1:=HR3.o
  exact bodyPost_ret (v:=.tuple #[.agg #[.int .i64 lo,.int .i64 hi],.int .i64 0]) (by simp only[results,Tryz.results78];simp[go_sem,r0,r1]) rfl ⟨rfl,HB2.o⟩
 ·rw[show jZ f d S ⟨3,pa,pb,pc,pk,ps⟩=((dR f d,bH f d),0) from rfl]
  have HLo:=aA fun w=>nL f d w
  have HHi:=aA fun w=>kN f d w
  generalize dR f d=lo at *
  generalize bH f d=hi at *
  have x0:=HK0.o.cell 0 rfl
  have y0:=HK0.o.cell 1 rfl
  go_enter Tryz.func78,Tryz.ntmps78
  go_wp2_with fail
  obtain⟨W0,hW0⟩:∃ W0,(((W.alloc (.cells (kd f d) 23)).alloc (.cells (ia ⟨3,pa,pb,pc,pk,ps⟩) 41)).alloc (.cells #[.int .i64 0,.int .i64 0] 74))=W0:=⟨_,rfl⟩
  rw[hW0] at HR0 HK0 HB0 x0 y0 ⊢
  clear hW0
  have HRd:Hid (aB W0.drew (W.heap.size+1+1) 74 #[.int .i64 0,.int .i64 0]):=HR0.o
  have HKd:Hid (aB W0.drew W.heap.size 23 (kd f d)):=HK0.o
  have HBd:=aA HB0.o.drew
  go_region_held3 (fun w'=>w'.cell? ⟨W.heap.size,0,none⟩=some (.int .i64 f)/\w'.cell? ⟨W.heap.size,1,none⟩=some (.int .i64 d))
   (first|exact⟨x0,y0⟩|exact⟨x3,y3⟩|exact⟨x4,y4⟩|exact⟨(aMv HK4.o (by omega) _ _).cell 0 rfl,(aMv HK4.o (by omega) _ _).cell 1 rfl⟩|go_keep)
   ((first
    | (go_at_call 57;refine(HLo.o _).mono ?_;rintro e w3 ⟨rfl,hb3⟩;have HR3:=aA (HRd.o.below hb3);have HK3:=aA (HKd.o.below hb3);have HB3:=aA (bel HBd.o hb3);clear hb3;obtain⟨x3,y3,-,-⟩:=aQ HK3.o)
    | (go_at_call 58;refine(HHi.o _).mono ?_;rintro e w4 ⟨rfl,hb4⟩;have HR4:=aA (HR3.o.below hb4);have HK4:=aA (HK3.o.below hb4);have HB4:=aA (bel HB3.o hb4);clear hb4;obtain⟨x4,y4,-,-⟩:=aQ HK4.o;obtain⟨g0,g1,g2,g3⟩:=aQ HR4.o)))
  all_goals
   obtain⟨r0,r1,hB⟩:=nM HR4.o HB4.o (by omega) lo hi
   go_wp2
   exact bodyPost_ret (v:=.tuple #[.agg #[.int .i64 lo,.int .i64 hi],.int .i64 0]) (by simp[results,Tryz.results78,go_sem,r0,r1]) rfl ⟨rfl,hB⟩
theorem yin (f d:Int)(n:In){i sl sc:Nat}{a:Option Addr}{S:dM}{W:World}(ho:bB n i=true)(h1:n.op≠1)(h2:n.op≠2)(h3:n.op≠3)(hS:Spn.Spans W a sl sc S)(hi:i<=sl) :
  Calls Tryz.prog 78 #[.agg (kd f d),.agg (ia n),.slice a sl sc] W fun e W'=>e=.returned (Spn.spV (jZ f d S n))/\Below W.heap.size W W':=by
 have hsl:sl<=9223372036854775807:=by have:=hS.le;have:=hS.max;unfold maxLen at *;omega
 rw[show jZ f d S n=Spn.ofZ n.op n.k n.s (vI S n) by unfold jZ;rw[if_neg h1,if_neg h2,if_neg h3]]
 have HRg:=aA fun j hj=>Cde.qQ ho (j:=j) hj
 have HSg:=aA fun j hj=>aKk (S:=S) (n:=n) (k:=j) hj
 have HA3:=aA (Cde.lQ n)
 have HAb:=aA fun j (h:j < 3)=>Cde.vV n j h
 have HLl:=aA (aG1 S n)
 have HPO:=aA fun w=>Cde.wD n w
 have q1:(n.op==1)=false:=by simpa using h1
 have q2:(n.op==2)=false:=by simpa using h2
 have q3:(n.op==3)=false:=by simpa using h3
 generalize vI S n=L at *
 generalize bY n=k at *
 have hb1:=aC W (.cells (kd f d) 23)
 have hb2:=bel hb1 (aC (W.alloc (.cells (kd f d) 23)) (.cells (ia n) 41))
 have hb3:=bel hb2 (aC ((W.alloc (.cells (kd f d) 23)).alloc (.cells (ia n) 41)) (.cells #[.int .i64 0,.int .i64 0] 74))
 have HB0:=aA hb3
 have HN0:Hid (aB (((W.alloc (.cells (kd f d) 23)).alloc (.cells (ia n) 41)).alloc (.cells #[.int .i64 0,.int .i64 0] 74)) (W.heap.size+1) 41 (ia n)):=by
  have:=(aB.new (W.alloc (.cells (kd f d) 23)) 41 (ia n)).alloc (.cells #[.int .i64 0,.int .i64 0] 74)
  simp only[World.size_alloc] at this
  exact aA this
 have HR0:Hid (aB (((W.alloc (.cells (kd f d) 23)).alloc (.cells (ia n) 41)).alloc (.cells #[.int .i64 0,.int .i64 0] 74)) (W.heap.size+1+1) 74 #[.int .i64 0,.int .i64 0]):=by
  have:=aB.new ((W.alloc (.cells (kd f d) 23)).alloc (.cells (ia n) 41)) 74 #[.int .i64 0,.int .i64 0]
  simp only[World.size_alloc] at this
  exact aA this
 have HS0:=aA (hS.later hb3)
 clear hb1 hb2 hb3 hS ho h1 h2 h3
 go_enter Tryz.func78,Tryz.ntmps78
 go_wp2_with fail
 refine(HPO.o _).mono ?_
 rintro e V1 ⟨g,rfl,-,hG,hb⟩
 have HG:=aA hG
 have HR1:=aA (HR0.o.below hb)
 have HN1:=aA (HN0.o.below hb)
 have HB1:=aA (bel HB0.o hb)
 have HS1:=aA (HS0.o.later hb)
 have hgl:=hG.lt
 clear hG hb HR0 HN0 HB0 HS0 HPO
 go_wp2_with fail
 go_loopw [10,42] (fun v i wr=>∃ j:Nat,j<=k/\i=.int .i64 j/\Hid (Spn.Es V1 wr v j (L.take j))) (fun _ i _=>k-(intOf i).toNat)
 case atStart=>exact⟨0,Nat.zero_le _,rfl,aA (Spn.Es.start V1)⟩
 case round =>
  obtain⟨j,hj,rfl,HE⟩:=hrel
  rename World=>V
  by_cases hlt:j < k
  ·have h33:j < 3:=by have:=HA3.o;omega
   have cp:=(HG.o.below HE.o.bel).cell j (Cde.gQ (abc n) j (by simp[abc];omega))
   rw[HAb.o j h33] at cp
   obtain⟨p0,p1⟩:=HRg.o j hlt
   have HT:=aA (HSg.o j hlt)
   obtain⟨q,hq⟩:∃ q:Nat,Cde.nW n j=(q:Int):=⟨(Cde.nW n j).toNat,by omega⟩
   rw[hq] at cp p1 HT
   simp only[Int.toNat_natCast] at p1 HT
   obtain⟨b,off,rfl,-,hcs⟩:=(HS1.o.later HE.o.bel).at (by omega)
   obtain⟨s0,s1⟩:=hcs q (by omega)
   generalize S.getD q (0,0)=sv at *
   obtain⟨lo,hi2⟩:=sv
   simp only at s0 s1
   have j0:(0:Int)<=j:=by omega
   have j1:(j:Int) < k:=by omega
   have j2:(j:Int) < 3:=by omega
   have i0:(0:Int)<=q:=by omega
   have i1:(q:Int) < sl:=by omega
   clear hcs p0 p1 hq
   go_wp2_with (at_builtin;refine Spn.aAe (w:=V1) (L:=L.take j) rfl _ _ rfl rfl (HE.o.alloc _) _ lo hi2 rfl (Spn.aB.new _ _ _) (by omega) ?_;intro g2 cap2 w2 HE2 hsz)
   go_roundw
   case rel=>exact⟨j+1,by omega,by go_num,aA (by rw[HT.o];exact HE2)⟩
   case measure=>simp[intOf];omega
  ·obtain rfl:j=k:=by omega
   have e:L.take j=L:=List.take_of_length_le (by rw[HLl.o];exact Nat.le_refl _)
   have HE1:=HE.o
   rw[e] at HE1
   obtain⟨va,vc,rfl,hA⟩:=Spn.Spans.of_owns HE1.a HLl.o
   have HOf:=aA (Spn.aMo n.op n.k n.s _ _ _ _ _ hA)
   have HR2:=aA (HR1.o.below HE1.bel)
   have HB2:=aA (bel HB1.o HE1.bel)
   obtain⟨x0,-,-,-,x4,x5⟩:=aJ (HN1.o.below HE1.bel)
   obtain⟨⟨⟨lo,hi2⟩,er⟩,hZ⟩:∃ Z,Spn.ofZ n.op n.k n.s L=Z:=⟨_,rfl⟩
   rw[hZ] at HOf
   have HZ:=aA hZ
   clear hZ hA e HE HE1
   go_wp2_with fail
   refine HOf.o.mono ?_
   rintro e V2 ⟨rfl,hb⟩
   have HR3:=aA (HR2.o.below hb)
   have HB3:=aA (bel HB2.o hb)
   obtain⟨g0,g1,g2,g3⟩:=aQ HR3.o
   clear hb
   go_wp2_with fail
   obtain⟨r0,r1,hB⟩:=nM HR3.o HB3.o (by omega) lo hi2
   exact bodyPost_ret (v:=.tuple #[.agg #[.int .i64 lo,.int .i64 hi2],.int .i64 er]) (by simp[results,Tryz.results78,go_sem,r0,r1]) rfl ⟨by rw[HZ.o],hB⟩
theorem aJ6 (f d:Int){n:In}{i sl sc:Nat}{a:Option Addr}{S:dM}{W:World}(ho:bB n i=true)(hS:Spn.Spans W a sl sc S)(hi:i<=sl) :
  Calls Tryz.prog 78 #[.agg (kd f d),.agg (ia n),.slice a sl sc] W fun e W'=>e=.returned (Spn.spV (jZ f d S n))/\Below W.heap.size W W':=by
 by_cases h:n.op=1\/n.op=2\/n.op=3
 ·exact aX3 f d n a sl sc h S W
 ·exact yin f d n ho (by omega) (by omega) (by omega) hS hi
end Go.Proofs.Vfy
