import Derived.Test.YticnbcfmbhjbgabGreatDoorXH
import Derived.Lib.QuietBelow
import Derived.BigQuiet
import Derived.Test.YticnbcfmbhjbgabGreatDoorX20
import Derived.Test.YticnbcfmbhjbgabGreatDoorX13
set_option maxRecDepth 100000
set_option maxHeartbeats 32000000
set_option linter.unusedVariables false
namespace Go.Proofs.Fld
open Go.RowKit Go.IntWalk Knd
open YticnbcfmbhjbgabGreatDoor (Wd eZ Fits inpV)
open Cde (In i0 dY bZ bE eG kR eQ jT bV rX jQ fQ gK mG sZ sW)
open Vfy (pI aW aI w32 eX)
variable {a:Int}
abbrev ar:=Spn.ar
abbrev vl:=Spn.bK
abbrev rg (M:List In)(r:Int):In:=M.getD r.toNat i0
def isN (M:List In)(r k:Int):Bool:=(rg M r).op==1&&(rg M r).k==k
def dM (T:List Int)(r:Int):Int:=if r < 0\/(T.length:Int)<=r then r else T.getD r.toNat 0
def dB (n:In)(T:List Int):In :=
 ⟨n.op,if 0 < ar n.op then dM T n.a else n.a,if 1 < ar n.op then dM T n.b else n.b,if 2 < ar n.op then dM T n.c else n.c,n.k,n.s⟩
def bnZ (f d:Int)(n:In):Int × Bool :=
 if n.op=2 then(if n.k=3 then(gD f d,true) else if n.k=4 then(dD f d,true) else if n.k=5 then(bU f d,true) else(0,false)) else(0,false)
def kaL (M:List In)(n:In):List Int:=(dY n).map fun r=>(rg M r).k
def alN (M:List In)(n:In):Bool:=(dY n).all fun r=>(rg M r).op==1
def rkZ (M:List In)(n:In):Int × Bool:=if alN M n=true then((vl n.op n.k n.s (kaL M n)).1,(vl n.op n.k n.s (kaL M n)).2==0) else(0,false)
def stZ (M:List In)(n:In):Int × Bool :=
 if n.op=9\/n.op=17\/n.op=18\/n.op=20\/n.op=23 then(0,n.a==n.b) else
 if n.op=19\/n.op=21\/n.op=22 then(1,n.a==n.b) else
 if n.op=10\/n.op=15 then(0,isN M n.a 0 || isN M n.b 0) else
 if n.op=12 then(0,isN M n.b 1) else
 if n.op=32\/n.op=31 then(0,n.k==0) else(0,false)
def knZ (f d:Int)(M:List In)(n:In):Int × Bool:=if (bnZ f d n).2=true then bnZ f d n else if (rkZ M n).2=true then rkZ M n else stZ M n
def mI (M:List In)(n:In):List (Bool × Int) :=
 if n.op=8\/n.op=17 then[(isN M n.a 0,n.b),(isN M n.b 0,n.a)] else
 if n.op=10 then[(isN M n.a 1,n.b),(isN M n.b 1,n.a)] else
 if n.op=16 then[(n.a==n.b,n.a),(isN M n.a 0,n.b),(isN M n.b 0,n.a)] else
 if n.op=15 then[(n.a==n.b,n.a),(isN M n.a (-1),n.b),(isN M n.b (-1),n.a)] else
 if n.op=24\/n.op=25 then[(n.a==n.b,n.a)] else
 if n.op=9\/n.op=13\/n.op=14 then[(isN M n.b 0,n.a)] else
 if n.op=11 then[(isN M n.b 1,n.a)] else
 if n.op=29\/n.op=30 then[(n.k==0,n.a)] else
 if n.op=32 then[(n.k==1,n.a)] else
 if n.op=5 then[((rg M n.a).op==5,(rg M n.a).a)] else
 if n.op=6 then[((rg M n.a).op==6,n.a)] else
 if n.op=28 then[(isN M n.a 0,n.c),((rg M n.a).op==1,n.b),(n.b==n.c,n.b)] else
 if n.op=27 then[(n.a==n.b || n.a==n.c,n.a),(n.b==n.c,n.b)] else
 if n.op=26 then[(n.b==n.c,n.b)] else[]
def fsZ (own:Int):List (Bool × Int)->Int
 | []=>own
 | p::L=>if p.1=true then p.2 else fsZ own L
def nuI (x:Int):In:=⟨1,0,0,0,x,0⟩
def nwI (f d:Int)(M:List In)(m:In):In:=if (knZ f d M m).2=true then nuI (knZ f d M m).1 else m
def nwT (f d:Int)(M:List In)(m:In)(own:Int):Int:=if (knZ f d M m).2=true then own else fsZ own (mI M m)
def foS (f d:Int)(s:List In × List Int)(n:In):List In × List Int :=
 (s.1++[nwI f d s.1 (dB n s.2)],s.2++[nwT f d s.1 (dB n s.2) s.1.length])
def oZ (f d:Int)(L:List In):List In × List Int:=L.foldl (foS f d) ([],[])
theorem yM (f d:Int)(L:List In)(n:In):oZ f d (L++[n])=foS f d (oZ f d L) n:=by simp[oZ]
theorem aCm (f d:Int)(L:List In):∀ k,k<=L.length->(oZ f d (L.take k)).1.length=k/\(oZ f d (L.take k)).2.length=k
 | 0,_=>by simp[oZ]
 | k+1,h=>by
  have ih:=aCm f d L k (by omega)
  rw[Cde.aG i0 (by omega),yM,foS]
  simp[ih.1,ih.2]
def foO (f d:Int)(L:List In)(out:Int):Int:=(oZ f d L).2.getD out.toNat 0
def fdL (f d:Int)(L:List In)(out:Int):List In:=if aW f d (oZ f d L).1 (foO f d L out)=0 then(oZ f d L).1 else L
def fdO (f d:Int)(L:List In)(out:Int):Int:=if aW f d (oZ f d L).1 (foO f d L out)=0 then foO f d L out else out
theorem mY {M Z:List In}{i:Nat}(h:i < M.length):(M++Z).getD i i0=M.getD i i0:=by
 rw[gdE,gAl h,<-gdE]
theorem kQ (M:List In)(n:In):(M++[n]).getD M.length i0=n:=by simp[List.getD_eq_getElem?_getD]
theorem bO (V:List Int)(x:Int):(V++[x]).getD V.length 0=x:=by simp[List.getD_eq_getElem?_getD]
theorem ofI (ha:w32 a):(BitVec.ofInt 64 a).toInt=a:=by
 obtain⟨h1,h2⟩:=ha
 rw[BitVec.toInt_ofInt]
 exact Int.bmod_eq_of_le (by omega) (by omega)
theorem aJ6 (ha:w32 a):bits .and .i64 a a=a:=by
 have:=Spn.gU .and a a
 simp only[Spn.nS.bv,BitVec.and_self,ofI ha] at this
 exact this
theorem aO9 (ha:w32 a):bits .or .i64 a a=a:=by
 have:=Spn.gU .or a a
 simp only[Spn.nS.bv,BitVec.or_self,ofI ha] at this
 exact this
theorem aL2 (a:Int):bits .xor .i64 a a=0:=by
 have:=Spn.gU .xor a a
 simp only[Spn.nS.bv,BitVec.xor_self] at this
 exact this
theorem aAy (a:Int):bits .and .i64 a 0=0:=by
 have:=Spn.gU .and a 0
 simp only[Spn.nS.bv,show BitVec.ofInt 64 0=0#64 from rfl,BitVec.and_zero] at this
 exact this
theorem aB2 (a:Int):bits .and .i64 0 a=0:=by
 have:=Spn.gU .and 0 a
 simp only[Spn.nS.bv,show BitVec.ofInt 64 0=0#64 from rfl,BitVec.zero_and] at this
 exact this
theorem aPa (ha:w32 a):bits .or .i64 a 0=a:=by
 have:=Spn.gU .or a 0
 simp only[Spn.nS.bv,show BitVec.ofInt 64 0=0#64 from rfl,BitVec.or_zero,ofI ha] at this
 exact this
theorem aRh (ha:w32 a):bits .or .i64 0 a=a:=by
 have:=Spn.gU .or 0 a
 simp only[Spn.nS.bv,show BitVec.ofInt 64 0=0#64 from rfl,BitVec.zero_or,ofI ha] at this
 exact this
theorem aL3 (ha:w32 a):bits .xor .i64 a 0=a:=by
 have:=Spn.gU .xor a 0
 simp only[Spn.nS.bv,show BitVec.ofInt 64 0=0#64 from rfl,BitVec.xor_zero,ofI ha] at this
 exact this
theorem aMc (ha:w32 a):bits .xor .i64 0 a=a:=by
 have:=Spn.gU .xor 0 a
 simp only[Spn.nS.bv,show BitVec.ofInt 64 0=0#64 from rfl,BitVec.zero_xor,ofI ha] at this
 exact this
theorem aJ5 (ha:w32 a):bits .and .i64 a (-1)=a:=by
 have:=Spn.gU .and a (-1)
 simp only[Spn.nS.bv,show BitVec.ofInt 64 (-1)=BitVec.allOnes 64 from rfl,BitVec.and_allOnes,ofI ha] at this
 exact this
theorem aBo (ha:w32 a):bits .and .i64 (-1) a=a:=by
 have:=Spn.gU .and (-1) a
 simp only[Spn.nS.bv,show BitVec.ofInt 64 (-1)=BitVec.allOnes 64 from rfl,BitVec.allOnes_and,ofI ha] at this
 exact this
theorem aAl {op k s x:Int}{xs:List Int}(h:vl op k s xs=(x,0)):(∀ z ∈ xs,w32 z)/\Spn.ex op k s (xs.getD 0 0) (xs.getD 1 0) (xs.getD 2 0)=(x,0)/\w32 x/\1<=ar op:=by
 have hw:=Vfy.aJx h
 unfold vl Spn.bK at h
 split at h
 ·rename_i hm
  simp only[Spn.fT,bAt,dEt,lAe] at hm
  refine⟨fun z hz=>Spn.bX.1 (hm.2 z hz),?_,hw,hm.1.1.1⟩
  split at h
  ·rename_i h0
   split at h
   ·cases h
    exact Prod.ext rfl h0
   ·cases h
  ·rename_i h0
   exact absurd (congrArg Prod.snd h) h0
 ·cases h
theorem aHn {r:Int}{u:Bool}{i j:Int}(h:sW r u i=true)(hj:i<=j):sW r u j=true:=by
 unfold sW at *
 cases u
 ·exact h
 ·simp only[if_true,Spn.aK] at *
  omega
theorem aX0 {n:In}{i j:Nat}(h:bE n i=true)(hj:i<=j):bE n j=true:=by
 simp only[bE,sZ,bAt] at *
 obtain⟨⟨h1,⟨h2,h3⟩,h4⟩,h5⟩:=h
 have e:(i:Int)<=j:=by omega
 exact⟨⟨h1,⟨aHn h2 e,aHn h3 e⟩,aHn h4 e⟩,h5⟩
structure Rv (f d:Int)(v:Wd)(M:List In)(V:List Int):Prop where
 len:V.length=M.length
 ok:∀ i,i < M.length->bE (M.getD i i0) i=true
 val:∀ i,i < M.length->bV f d v V (M.getD i i0)=(V.getD i 0,0)
theorem Rv.nil (f d:Int)(v:Wd):Rv f d v [] []:=⟨rfl,fun i h=>by simp at h,fun i h=>by simp at h⟩
theorem Rv.snoc {f d:Int}{v:Wd}{M:List In}{V:List Int}{n:In}{x:Int}(h:Rv f d v M V)(ho:bE n M.length=true)(hx:bV f d v V n=(x,0)):Rv f d v (M++[n]) (V++[x]):=by
 have hl:=h.len
 refine⟨by simp[hl],fun i hi=>?_,fun i hi=>?_⟩
 ·simp only[lLa,lLc,lLn] at hi
  by_cases e:i < M.length
  ·rw[mY e];exact h.ok i e
  ·obtain rfl:i=M.length:=by omega
   rw[kQ];exact ho
 ·simp only[lLa,lLc,lLn] at hi
  by_cases e:i < M.length
  ·rw[mY e,Cde.xN (aX0 (h.ok i e) (by omega)),h.val i e,Cde.dN (by omega)]
  ·obtain rfl:i=M.length:=by omega
   rw[kQ,Cde.xN (by rw[hl];exact ho),hx,<-hl,bO]
end Go.Proofs.Fld
namespace Go.Proofs.Fld
open Go.RowKit Go.IntWalk Knd
open YticnbcfmbhjbgabGreatDoor (Wd eZ Fits inpV)
open Cde (In i0 dY bZ bE eG kR eQ jT bV rX jQ fQ gK mG sZ sW)
open Vfy (pI aW aI w32 eX)
variable {m n:In} {d f op r s x z:Int} {v:Wd} {M:List In} {T V:List Int} {k:Nat}
def gv (V:List Int)(r:Int):Int:=V.getD r.toNat 0
theorem xP (h:ar n.op=1):dY n=[n.a]:=by unfold dY bZ;rw[show Spn.ar n.op=1 from h];rfl
theorem jF (h:ar n.op=2):dY n=[n.a,n.b]:=by unfold dY bZ;rw[show Spn.ar n.op=2 from h];rfl
theorem oV (h:ar n.op=3):dY n=[n.a,n.b,n.c]:=by unfold dY bZ;rw[show Spn.ar n.op=3 from h];rfl
theorem av1 (h:ar n.op=1)(V:List Int):gK V n=[gv V n.a]:=by unfold gK;rw[xP h];rfl
theorem uQ (h:ar n.op=2)(V:List Int):gK V n=[gv V n.a,gv V n.b]:=by unfold gK;rw[jF h];rfl
theorem av3 (h:ar n.op=3)(V:List Int):gK V n=[gv V n.a,gv V n.b,gv V n.c]:=by unfold gK;rw[oV h];rfl
def dW (r:Int)(i:Nat):Prop:=0<=r/\r.toNat < i
theorem nC {i:Nat}(h:bE n i=true)(hr:r ∈ dY n):dW r i:=Vfy.pM h hr
theorem Rv.reg (h:Rv f d v M V)(hr:dW r M.length):bE (rg M r) r.toNat=true/\bV f d v V (rg M r)=(gv V r,0):=⟨h.ok _ hr.2,h.val _ hr.2⟩
theorem Rv.num (h:Rv f d v M V)(hr:dW r M.length)(ho:(rg M r).op=1):gv V r=(rg M r).k:=by
 have:=(h.reg hr).2
 rw[bV,if_pos ho] at this
 exact(congrArg Prod.fst this).symm
theorem Rv.isN {f d:Int}{v:Wd}{M:List In}{V:List Int}(h:Rv f d v M V){r k:Int}(hr:dW r M.length)(ho:isN M r k=true):gv V r=k:=by
 simp only[Fld.isN,bAt,beq_iff_eq] at ho
 rw[h.num hr ho.1,ho.2]
theorem bL (h:1<=ar n.op):bV f d v V n=vl n.op n.k n.s (gK V n):=by
 have h1:n.op≠1:=fun e=>by rw[e] at h;exact absurd h (by decide)
 have h2:n.op≠2:=fun e=>by rw[e] at h;exact absurd h (by decide)
 have h3:n.op≠3:=fun e=>by rw[e] at h;exact absurd h (by decide)
 rw[bV,if_neg h1,if_neg h2,if_neg h3]
theorem Rv.neg (h:Rv f d v M V)(hr:dW r M.length)(ho:(rg M r).op=5):dW (rg M r).a M.length/\gv V r=- gv V (rg M r).a:=by
 obtain⟨h1,h2⟩:=h.reg hr
 have ha:ar (rg M r).op=1:=by rw[ho];decide
 have hin:=nC h1 (r:=(rg M r).a) (by rw[xP ha];simp)
 refine⟨⟨hin.1,Nat.lt_trans hin.2 hr.2⟩,?_⟩
 rw[bL (by omega),av1 ha] at h2
 obtain⟨-,e,-⟩:=aAl h2
 rw[ho] at e
 simp[Spn.ex] at e
 exact e.symm
theorem Rv.abs (h:Rv f d v M V)(hr:dW r M.length)(ho:(rg M r).op=6):0<=gv V r:=by
 obtain⟨h1,h2⟩:=h.reg hr
 have ha:ar (rg M r).op=1:=by rw[ho];decide
 rw[bL (by omega),av1 ha] at h2
 obtain⟨-,e,-⟩:=aAl h2
 rw[ho] at e
 simp[Spn.ex] at e
 have e':max (gv V (rg M r).a) (-gv V (rg M r).a)=gv V r:=e
 omega
theorem gH {k y:Int}(h:vl op k s [x,y]=(z,0)):w32 x/\w32 y/\Spn.ex op k s x y 0=(z,0):=by
 obtain⟨h1,h2,-⟩:=aAl h
 exact⟨h1 x (by simp),h1 y (by simp),h2⟩
theorem mJ {k:Int}(h:vl op k s [x]=(z,0)):w32 x/\Spn.ex op k s x 0 0=(z,0):=by
 obtain⟨h1,h2,-⟩:=aAl h
 exact⟨h1 x (by simp),h2⟩
theorem aAi {k y u:Int}(h:vl op k s [x,y,u]=(z,0)):w32 x/\w32 y/\w32 u/\Spn.ex op k s x y u=(z,0):=by
 obtain⟨h1,h2,-⟩:=aAl h
 exact⟨h1 x (by simp),h1 y (by simp),h1 u (by simp),h2⟩
theorem aYx (h:Rv f d v M V)(ho:bE m M.length=true)(hx:bV f d v V m=(x,0))(hs:(stZ M m).2=true):(stZ M m).1=x:=by
 have hin:=fun r=>nC ho (r:=r)
 unfold stZ at hs ⊢
 split at hs
 ·rename_i hop
  rw[if_pos hop]
  have ha:ar m.op=2:=by rcases hop with e|e|e|e|e <;> rw[e] <;> decide
  rw[bL (by omega),uQ ha] at hx
  obtain⟨-,-,e⟩:=gH hx
  have hab:m.a=m.b:=by simpa using hs
  rw[hab] at e
  generalize gv V m.b=y at e
  rcases hop with q|q|q|q|q <;> rw[q] at e <;> simp[Spn.ex,Spn.tr,aL2] at e <;> omega
 rename_i h1
 rw[if_neg h1]
 split at hs
 ·rename_i hop
  rw[if_pos hop]
  have ha:ar m.op=2:=by rcases hop with e|e|e <;> rw[e] <;> decide
  rw[bL (by omega),uQ ha] at hx
  obtain⟨-,-,e⟩:=gH hx
  have hab:m.a=m.b:=by simpa using hs
  rw[hab] at e
  generalize gv V m.b=y at e
  rcases hop with q|q|q <;> rw[q] at e <;> simp[Spn.ex,Spn.tr] at e <;> omega
 rename_i h2
 rw[if_neg h2]
 split at hs
 ·rename_i hop
  rw[if_pos hop]
  have ha:ar m.op=2:=by rcases hop with e|e <;> rw[e] <;> decide
  have ia:=hin m.a (by rw[jF ha];simp)
  have ib:=hin m.b (by rw[jF ha];simp)
  rw[bL (by omega),uQ ha] at hx
  obtain⟨-,-,e⟩:=gH hx
  simp only[Bool.or_eq_true] at hs
  rcases hs with hs|hs
  ·rw[h.isN ia hs] at e
   rcases hop with q|q <;> rw[q] at e <;> simp[Spn.ex,aB2] at e <;> omega
  ·rw[h.isN ib hs] at e
   rcases hop with q|q <;> rw[q] at e <;> simp[Spn.ex,aAy] at e <;> omega
 rename_i h3
 rw[if_neg h3]
 split at hs
 ·rename_i hop
  rw[if_pos hop]
  have ha:ar m.op=2:=by rw[hop];decide
  have ib:=hin m.b (by rw[jF ha];simp)
  rw[bL (by omega),uQ ha] at hx
  obtain⟨-,-,e⟩:=gH hx
  rw[h.isN ib hs,hop] at e
  simp[Spn.ex,Int.tmod_one] at e
  omega
 rename_i h4
 rw[if_neg h4]
 split at hs
 ·rename_i hop
  rw[if_pos hop]
  have ha:ar m.op=1:=by rcases hop with e|e <;> rw[e] <;> decide
  rw[bL (by omega),av1 ha] at hx
  obtain⟨-,e⟩:=mJ hx
  have hk:m.k=0:=by simpa using hs
  rw[hk] at e
  rcases hop with q|q <;> rw[q] at e <;> simp[Spn.ex,aAy] at e <;> omega
 ·cases hs
theorem aW8 (h28:m.op≠28)(h:Rv f d v M V)(ho:bE m M.length=true)(hx:bV f d v V m=(x,0)) :
  ∀ p ∈ mI M m,p.1=true->dW p.2 M.length/\gv V p.2=x:=by
 have hin:=fun r=>nC ho (r:=r)
 unfold mI
 by_cases hop:m.op=8\/m.op=17
 ·rw[if_pos hop]
  have ha:ar m.op=2:=by rcases hop with e|e <;> rw[e] <;> decide
  have ia:=hin m.a (by rw[jF ha];simp)
  have ib:=hin m.b (by rw[jF ha];simp)
  rw[bL (by omega),uQ ha] at hx
  obtain⟨w1,w2,e⟩:=gH hx
  intro p hp hs
  simp only[lMm,lNm,or_false] at hp
  rcases hp with rfl|rfl
  ·refine⟨ib,?_⟩
   rw[h.isN ia hs] at e
   rcases hop with q|q <;> rw[q] at e <;> simp[Spn.ex,aMc w2] at e <;> exact e
  ·refine⟨ia,?_⟩
   rw[h.isN ib hs] at e
   rcases hop with q|q <;> rw[q] at e <;> simp[Spn.ex,aL3 w1] at e <;> exact e
 rw[if_neg hop]
 clear hop
 by_cases hop:m.op=10
 ·rw[if_pos hop]
  have ha:ar m.op=2:=by rw[hop];decide
  have ia:=hin m.a (by rw[jF ha];simp)
  have ib:=hin m.b (by rw[jF ha];simp)
  rw[bL (by omega),uQ ha] at hx
  obtain⟨w1,w2,e⟩:=gH hx
  intro p hp hs
  simp only[lMm,lNm,or_false] at hp
  rcases hp with rfl|rfl
  ·refine⟨ib,?_⟩
   rw[h.isN ia hs,hop] at e
   simp[Spn.ex] at e
   exact e
  ·refine⟨ia,?_⟩
   rw[h.isN ib hs,hop] at e
   simp[Spn.ex] at e
   exact e
 rw[if_neg hop]
 clear hop
 by_cases hop:m.op=16
 ·rw[if_pos hop]
  have ha:ar m.op=2:=by rw[hop];decide
  have ia:=hin m.a (by rw[jF ha];simp)
  have ib:=hin m.b (by rw[jF ha];simp)
  rw[bL (by omega),uQ ha,hop] at hx
  obtain⟨w1,w2,e⟩:=gH hx
  intro p hp hs
  simp only[lMm,lNm,or_false] at hp
  rcases hp with rfl|rfl|rfl
  ·refine⟨ia,?_⟩
   have hab:m.a=m.b:=by simpa using hs
   rw[<-hab] at e
   simp[Spn.ex,aO9 w1] at e
   exact e
  ·refine⟨ib,?_⟩
   rw[h.isN ia hs] at e
   simp[Spn.ex,aRh w2] at e
   exact e
  ·refine⟨ia,?_⟩
   rw[h.isN ib hs] at e
   simp[Spn.ex,aPa w1] at e
   exact e
 rw[if_neg hop]
 clear hop
 by_cases hop:m.op=15
 ·rw[if_pos hop]
  have ha:ar m.op=2:=by rw[hop];decide
  have ia:=hin m.a (by rw[jF ha];simp)
  have ib:=hin m.b (by rw[jF ha];simp)
  rw[bL (by omega),uQ ha,hop] at hx
  obtain⟨w1,w2,e⟩:=gH hx
  intro p hp hs
  simp only[lMm,lNm,or_false] at hp
  rcases hp with rfl|rfl|rfl
  ·refine⟨ia,?_⟩
   have hab:m.a=m.b:=by simpa using hs
   rw[<-hab] at e
   simp[Spn.ex,aJ6 w1] at e
   exact e
  ·refine⟨ib,?_⟩
   rw[h.isN ia hs] at e
   simp[Spn.ex,aBo w2] at e
   exact e
  ·refine⟨ia,?_⟩
   rw[h.isN ib hs] at e
   simp[Spn.ex,aJ5 w1] at e
   exact e
 rw[if_neg hop]
 clear hop
 by_cases hop:m.op=24\/m.op=25
 ·rw[if_pos hop]
  have ha:ar m.op=2:=by rcases hop with e|e <;> rw[e] <;> decide
  have ia:=hin m.a (by rw[jF ha];simp)
  rw[bL (by omega),uQ ha] at hx
  obtain⟨w1,w2,e⟩:=gH hx
  intro p hp hs
  simp only[lMm,lNm,or_false] at hp
  subst hp
  refine⟨ia,?_⟩
  have hab:m.a=m.b:=by simpa using hs
  rw[<-hab] at e
  rcases hop with q|q <;> rw[q] at e <;> simp[Spn.ex] at e <;> exact e
 rw[if_neg hop]
 clear hop
 by_cases hop:m.op=9\/m.op=13\/m.op=14
 ·rw[if_pos hop]
  have ha:ar m.op=2:=by rcases hop with e|e|e <;> rw[e] <;> decide
  have ia:=hin m.a (by rw[jF ha];simp)
  have ib:=hin m.b (by rw[jF ha];simp)
  rw[bL (by omega),uQ ha] at hx
  obtain⟨w1,w2,e⟩:=gH hx
  intro p hp hs
  simp only[lMm,lNm,or_false] at hp
  subst hp
  refine⟨ia,?_⟩
  rw[h.isN ib hs] at e
  rcases hop with q|q|q <;> rw[q] at e <;> simp[Spn.ex,Spn.fC] at e <;> exact e
 rw[if_neg hop]
 clear hop
 by_cases hop:m.op=11
 ·rw[if_pos hop]
  have ha:ar m.op=2:=by rw[hop];decide
  have ia:=hin m.a (by rw[jF ha];simp)
  have ib:=hin m.b (by rw[jF ha];simp)
  rw[bL (by omega),uQ ha,hop] at hx
  obtain⟨w1,w2,e⟩:=gH hx
  intro p hp hs
  simp only[lMm,lNm,or_false] at hp
  subst hp
  refine⟨ia,?_⟩
  rw[h.isN ib hs] at e
  simp[Spn.ex,Int.tdiv_one] at e
  exact e
 rw[if_neg hop]
 clear hop
 by_cases hop:m.op=29\/m.op=30
 ·rw[if_pos hop]
  have ha:ar m.op=1:=by rcases hop with e|e <;> rw[e] <;> decide
  have ia:=hin m.a (by rw[xP ha];simp)
  rw[bL (by omega),av1 ha] at hx
  obtain⟨w1,e⟩:=mJ hx
  intro p hp hs
  simp only[lMm,lNm,or_false] at hp
  subst hp
  refine⟨ia,?_⟩
  have hk:m.k=0:=by simpa using hs
  rw[hk] at e
  rcases hop with q|q <;> rw[q] at e <;> simp[Spn.ex] at e <;> exact e
 rw[if_neg hop]
 clear hop
 by_cases hop:m.op=32
 ·rw[if_pos hop]
  have ha:ar m.op=1:=by rw[hop];decide
  have ia:=hin m.a (by rw[xP ha];simp)
  rw[bL (by omega),av1 ha,hop] at hx
  obtain⟨w1,e⟩:=mJ hx
  intro p hp hs
  simp only[lMm,lNm,or_false] at hp
  subst hp
  refine⟨ia,?_⟩
  have hk:m.k=1:=by simpa using hs
  rw[hk] at e
  simp[Spn.ex] at e
  exact e
 rw[if_neg hop]
 clear hop
 by_cases hop:m.op=5
 ·rw[if_pos hop]
  have ha:ar m.op=1:=by rw[hop];decide
  have ia:=hin m.a (by rw[xP ha];simp)
  rw[bL (by omega),av1 ha,hop] at hx
  obtain⟨w1,e⟩:=mJ hx
  intro p hp hs
  simp only[lMm,lNm,or_false] at hp
  subst hp
  obtain⟨i2,e2⟩:=h.neg ia (by simpa using hs)
  refine⟨i2,?_⟩
  rw[e2] at e
  simp[Spn.ex] at e
  exact e
 rw[if_neg hop]
 clear hop
 by_cases hop:m.op=6
 ·rw[if_pos hop]
  have ha:ar m.op=1:=by rw[hop];decide
  have ia:=hin m.a (by rw[xP ha];simp)
  rw[bL (by omega),av1 ha,hop] at hx
  obtain⟨w1,e⟩:=mJ hx
  intro p hp hs
  simp only[lMm,lNm,or_false] at hp
  subst hp
  have e2:=h.abs ia (by simpa using hs)
  refine⟨ia,?_⟩
  have e3:=congrArg Prod.fst e
  simp only[Spn.ex] at e3
  change max (gv V m.a) (-gv V m.a)=x at e3
  show gv V m.a=x
  omega
 rw[if_neg hop]
 clear hop
 by_cases hop:m.op=28
 ·rw[if_pos hop]
  exact absurd hop h28
 rw[if_neg hop]
 clear hop
 by_cases hop:m.op=27
 ·rw[if_pos hop]
  have ha:ar m.op=3:=by rw[hop];decide
  have ia:=hin m.a (by rw[oV ha];simp)
  have ib:=hin m.b (by rw[oV ha];simp)
  rw[bL (by omega),av3 ha,hop] at hx
  obtain⟨w1,w2,w3,e⟩:=aAi hx
  have e3:max (min (gv V m.a) (gv V m.b)) (min (max (gv V m.a) (gv V m.b)) (gv V m.c))=x:=by
   have:=congrArg Prod.fst e
   simpa [Spn.ex] using this
  intro p hp hs
  simp only[lMm,lNm,or_false] at hp
  rcases hp with rfl|rfl
  ·refine⟨ia,?_⟩
   show gv V m.a=x
   simp only[Bool.or_eq_true,beq_iff_eq] at hs
   rcases hs with hs|hs
   ·rw[<-hs] at e3;omega
   ·rw[<-hs] at e3;omega
  ·refine⟨ib,?_⟩
   show gv V m.b=x
   simp only[beq_iff_eq] at hs
   rw[<-hs] at e3;omega
 rw[if_neg hop]
 clear hop
 by_cases hop:m.op=26
 ·rw[if_pos hop]
  have ha:ar m.op=3:=by rw[hop];decide
  have ib:=hin m.b (by rw[oV ha];simp)
  rw[bL (by omega),av3 ha,hop] at hx
  obtain⟨w1,w2,w3,e⟩:=aAi hx
  have e3:min (gv V m.c) (max (gv V m.a) (gv V m.b))=x:=by
   have:=congrArg Prod.fst e
   simpa [Spn.ex] using this
  intro p hp hs
  simp only[lMm,lNm,or_false] at hp
  subst hp
  refine⟨ib,?_⟩
  show gv V m.b=x
  simp only[beq_iff_eq] at hs
  rw[<-hs] at e3;omega
 ·rw[if_neg hop]
  intro p hp
  cases hp
theorem aNn (own:Int):∀ L:List (Bool × Int),fsZ own L=own\/∃ p ∈ L,p.1=true/\fsZ own L=p.2
 | []=>.inl rfl
 | p::L=>by
  unfold fsZ
  split
  ·rename_i hp
   exact .inr ⟨p,by simp,hp,rfl⟩
  ·rcases aNn own L with h|⟨q,h1,h2,h3⟩
   ·exact .inl h
   ·exact .inr ⟨q,by simp[h1],h2,h3⟩
theorem aWs (h:Rv f d v M V)(ho:bE m M.length=true)(hx:bV f d v V m=(x,0))(own:Int) :
  fsZ own (mI M m)=own\/(dW (fsZ own (mI M m)) M.length/\gv V (fsZ own (mI M m))=x):=by
 by_cases hop:m.op=28
 ·have hin:=fun r=>nC ho (r:=r)
  have ha:ar m.op=3:=by rw[hop];decide
  have ia:=hin m.a (by rw[oV ha];simp)
  have ib:=hin m.b (by rw[oV ha];simp)
  have ic:=hin m.c (by rw[oV ha];simp)
  rw[bL (by omega),av3 ha,hop] at hx
  obtain⟨w1,w2,w3,e⟩:=aAi hx
  have e3:(if gv V m.a=0 then gv V m.c else gv V m.b)=x:=by
   have:=congrArg Prod.fst e
   simpa [Spn.ex] using this
  have el:mI M m=[(isN M m.a 0,m.c),((rg M m.a).op==1,m.b),(m.b==m.c,m.b)]:=by unfold mI;rw[hop];simp
  rw[el]
  simp only[fsZ]
  by_cases h1:isN M m.a 0=true
  ·rw[if_pos h1]
   rw[h.isN ia h1,if_pos rfl] at e3
   exact .inr ⟨ic,e3⟩
  rw[if_neg h1]
  by_cases h2:((rg M m.a).op==1)=true
  ·rw[if_pos h2]
   refine .inr ⟨ib,?_⟩
   have hn:=h.num ia (by simpa using h2)
   have h0:gv V m.a≠0:=by
    intro h0
    apply h1
    simp only[Fld.isN,bAt]
    refine⟨h2,?_⟩
    rw[hn] at h0
    simpa using h0
   rw[if_neg h0] at e3
   exact e3
  rw[if_neg h2]
  by_cases h3:(m.b==m.c)=true
  ·rw[if_pos h3]
   refine .inr ⟨ib,?_⟩
   have hbc:m.b=m.c:=by simpa using h3
   rw[<-hbc] at e3
   split at e3 <;> exact e3
  ·rw[if_neg h3]
   exact .inl rfl
 ·rcases aNn own (mI M m) with e|⟨p,h1,h2,h3⟩
  ·exact .inl e
  ·right
   rw[h3]
   exact aW8 hop h ho hx p h1 h2
structure St (V:List Int)(T:List Int)(k:Nat):Prop where
 len:T.length=k
 vl:V.length=k
 at':∀ i,i < k->0<=T.getD i 0/\(T.getD i 0).toNat<=i/\gv V (T.getD i 0)=V.getD i 0
theorem St.ex (h:St V T k)(hr:dW r k):dW (dM T r) k/\gv V (dM T r)=gv V r:=by
 obtain⟨h1,h2,h3⟩:=h.at' r.toNat hr.2
 have e:dM T r=T.getD r.toNat 0:=by
  unfold dM
  rw[if_neg]
  have:=h.len
  have:=hr.1
  have:=hr.2
  omega
 rw[e]
 exact⟨⟨h1,by have:=hr.2;omega⟩,h3⟩
theorem kF {u:Bool}{i:Nat}:sW r u i=true↔(u=true->dW r i)/\(u=false->r=0):=by
 unfold sW dW
 cases u
 ·simp
 ·simp only[if_true,Spn.aK]
  constructor
  ·intro h;exact⟨fun _=>by omega,fun h=>by cases h⟩
  ·intro h;have:=h.1 trivial;omega
theorem aF4 (h:St V T k)(ho:bE n k=true):bE (dB n T) k=true:=by
 have hc:=Cde.qD ho
 have ha:=Cde.zT ho
 simp only[bE,sZ,bAt,kF] at ho
 obtain⟨⟨-,⟨⟨a1,a2⟩,b1,b2⟩,c1,c2⟩,-⟩:=ho
 simp only[dEt,decide_eq_false_iff_not] at a1 a2 b1 b2 c1 c2
 have hc':mG (dB n T)=true:=hc
 simp only[bE,sZ,bAt,kF,hc',dEt,decide_eq_false_iff_not]
 refine⟨⟨ha,⟨⟨fun u=>?_,fun u=>?_⟩,fun u=>?_,fun u=>?_⟩,fun u=>?_,fun u=>?_⟩,trivial⟩
 ·show dW (if 0 < ar n.op then dM T n.a else n.a) k
  rw[if_pos (show 0 < ar n.op from u)];exact(h.ex (a1 u)).1
 ·show (if 0 < ar n.op then dM T n.a else n.a)=0
  rw[if_neg (show ¬0 < ar n.op from u)];exact a2 u
 ·show dW (if 1 < ar n.op then dM T n.b else n.b) k
  rw[if_pos (show 1 < ar n.op from u)];exact(h.ex (b1 u)).1
 ·show (if 1 < ar n.op then dM T n.b else n.b)=0
  rw[if_neg (show ¬1 < ar n.op from u)];exact b2 u
 ·show dW (if 2 < ar n.op then dM T n.c else n.c) k
  rw[if_pos (show 2 < ar n.op from u)];exact(h.ex (c1 u)).1
 ·show (if 2 < ar n.op then dM T n.c else n.c)=0
  rw[if_neg (show ¬2 < ar n.op from u)];exact c2 u
theorem aY0 (h:St V T k)(ho:bE n k=true):gK V (dB n T)=gK V n:=by
 have hin:=fun r=>nC ho (r:=r)
 have ha:=Cde.zT ho
 have h3:=Spn.xS n.op
 rcases(show ar n.op=0\/ar n.op=1\/ar n.op=2\/ar n.op=3 by unfold ar;omega) with e|e|e|e
 ·have e1:dY n=[]:=by unfold dY bZ;rw[show Spn.ar n.op=0 from e];rfl
  have e2:dY (dB n T)=[]:=by unfold dY bZ;rw[show Spn.ar (dB n T).op=0 from e];rfl
  unfold gK;rw[e1,e2]
 ·rw[av1 e,av1 (n:=dB n T) e]
  have ea:(dB n T).a=dM T n.a:=by show (if 0 < ar n.op then dM T n.a else n.a)=_;rw[if_pos (by omega)]
  rw[ea,(h.ex (hin n.a (by rw[xP e];simp))).2]
 ·rw[uQ e,uQ (n:=dB n T) e]
  have ea:(dB n T).a=dM T n.a:=by show (if 0 < ar n.op then dM T n.a else n.a)=_;rw[if_pos (by omega)]
  have eb:(dB n T).b=dM T n.b:=by show (if 1 < ar n.op then dM T n.b else n.b)=_;rw[if_pos (by omega)]
  rw[ea,eb,(h.ex (hin n.a (by rw[jF e];simp))).2,(h.ex (hin n.b (by rw[jF e];simp))).2]
 ·rw[av3 e,av3 (n:=dB n T) e]
  have ea:(dB n T).a=dM T n.a:=by show (if 0 < ar n.op then dM T n.a else n.a)=_;rw[if_pos (by omega)]
  have eb:(dB n T).b=dM T n.b:=by show (if 1 < ar n.op then dM T n.b else n.b)=_;rw[if_pos (by omega)]
  have ec:(dB n T).c=dM T n.c:=by show (if 2 < ar n.op then dM T n.c else n.c)=_;rw[if_pos (by omega)]
  rw[ea,eb,ec,(h.ex (hin n.a (by rw[oV e];simp))).2,(h.ex (hin n.b (by rw[oV e];simp))).2,(h.ex (hin n.c (by rw[oV e];simp))).2]
theorem aQt (h:St V T k)(ho:bE n k=true):bV f d v V (dB n T)=bV f d v V n:=by
 unfold bV
 rw[aY0 h ho]
 rfl
theorem aUe (h:Rv f d v M V)(ho:bE m M.length=true)(ha:alN M m=true):kaL M m=gK V m:=by
 unfold kaL gK
 apply List.map_congr_left
 intro r hr
 simp only[alN,lAe] at ha
 exact(h.num (nC ho hr) (by simpa using ha r hr)).symm
theorem aYl (h:Rv f d v M V)(ho:bE m M.length=true)(hx:bV f d v V m=(x,0))(h1:1<=ar m.op)(ha:alN M m=true):rkZ M m=(x,true)/\vl m.op m.k m.s (kaL M m)=(x,0):=by
 rw[bL h1] at hx
 have e:vl m.op m.k m.s (kaL M m)=(x,0):=by rw[aUe h ho ha];exact hx
 refine⟨?_,e⟩
 rw[rkZ,if_pos ha,e]
 rfl
theorem aUh (h1:¬1<=ar m.op):(rkZ M m).2=false:=by
 unfold rkZ
 split
 ·have:vl m.op m.k m.s (kaL M m)=(0,1):=by
   unfold vl Spn.bK
   rw[if_neg]
   simp only[Spn.fT,bAt,dEt]
   intro h
   exact h1 h.1.1.1
  rw[this];rfl
 ·rfl
theorem aWj (hx:bV f d v V m=(x,0))(hb:(bnZ f d m).2=true):(bnZ f d m).1=x:=by
 unfold bnZ at *
 split at hb
 ·rename_i hop
  rw[if_pos hop]
  rw[bV,if_neg (by omega),if_pos hop] at hx
  have e:=congrArg Prod.fst hx
  simp only[inpV] at e
  split at hb
  ·rename_i hk;rw[if_pos hk];rw[hk] at e;simpa using e
  ·rename_i hk
   rw[if_neg hk]
   split at hb
   ·rename_i hk;rw[if_pos hk];rw[hk] at e;simpa using e
   ·rename_i hk
    rw[if_neg hk]
    split at hb
    ·rename_i hk;rw[if_pos hk];rw[hk] at e;simpa using e
    ·cases hb
 ·cases hb
theorem aW2 (h:Rv f d v M V)(ho:bE m M.length=true)(hx:bV f d v V m=(x,0))(hk:(knZ f d M m).2=true):(knZ f d M m).1=x:=by
 unfold knZ at *
 split at hk
 ·rename_i hb
  rw[if_pos hb]
  exact aWj hx hb
 ·rename_i hb
  rw[if_neg hb]
  split at hk
  ·rename_i hr
   rw[if_pos hr]
   by_cases h1:1<=ar m.op
   ·by_cases ha:alN M m=true
    ·rw[(aYl h ho hx h1 ha).1]
    ·rw[rkZ,if_neg ha] at hr;cases hr
   ·rw[aUh h1] at hr;cases hr
  ·rename_i hr
   rw[if_neg hr]
   exact aYx h ho hx hk
theorem bAs (hx:w32 x)(i:Nat):bE (nuI x) i=true:=by
 have e:Spn.wd x=true:=Spn.bX.2 hx
 simp[bE,nuI,sZ,sW,mG,Spn.ar,e]
theorem bAu (f d:Int)(v:Wd)(V:List Int)(x:Int):bV f d v V (nuI x)=(x,0):=by simp[bV,nuI]
theorem aTr (h:Rv f d v M V)(hT:St V T M.length)(ho:bE n M.length=true)(hx:bV f d v V n=(x,0))(hw:w32 x) :
  bE (nwI f d M (dB n T)) M.length=true/\bV f d v V (nwI f d M (dB n T))=(x,0) /\
  (nwT f d M (dB n T) M.length=M.length\/(dW (nwT f d M (dB n T) M.length) M.length/\gv V (nwT f d M (dB n T) M.length)=x)):=by
 have ho':=aF4 hT ho
 have hx':bV f d v V (dB n T)=(x,0):=by rw[aQt hT ho];exact hx
 unfold nwI nwT
 by_cases hk:(knZ f d M (dB n T)).2=true
 ·rw[if_pos hk,if_pos hk,aW2 h ho' hx' hk]
  exact⟨bAs hw _,bAu ..,.inl rfl⟩
 ·rw[if_neg hk,if_neg hk]
  exact⟨ho',hx',aWs h ho' hx' _⟩
theorem St.snoc (h:St V T k){t:Int}(ht:t=k\/(dW t k/\gv V t=x)):St (V++[x]) (T++[t]) (k+1):=by
 have hl:=h.len
 have hv:=h.vl
 refine⟨by simp[hl],by simp[hv],fun i hi=>?_⟩
 by_cases e:i < k
 ·obtain⟨h1,h2,h3⟩:=h.at' i e
  rw[Cde.dN (by omega)]
  refine⟨h1,h2,?_⟩
  rw[gv,Cde.dN (by omega),Cde.dN (by omega)]
  exact h3
 ·obtain rfl:i=k:=by omega
  rw[show (T++[t]).getD i 0=t by rw[<-hl];exact bO T t,show (V++[x]).getD i 0=x by rw[<-hv];exact bO V x]
  rcases ht with rfl|⟨h1,h2⟩
  ·refine⟨by omega,by omega,?_⟩
   rw[gv,iTn,<-hv];exact bO V x
  ·refine⟨h1.1,by have:=h1.2;omega,?_⟩
   rw[gv,Cde.dN (by rw[hv];exact h1.2)]
   exact h2
end Go.Proofs.Fld
namespace Go.Proofs.Fld
open Go.RowKit Go.IntWalk Knd
open Cde (In i0 ia kd cd Ins rM aH aJ)
open YticnbcfmbhjbgabGreatDoor (aB)
variable {a:Option Addr} {cap n:Nat} {T:List Int} {W:World}
theorem aSg (r:Int)(hT:Ints W a n cap T) :
  Calls Tryz.prog 312 #[.i r,.slice a n cap] W fun e W'=>e=.returned (.i (dM T r))/\W'=W:=by
 have hl:=hT.len
 have hs:n<=9223372036854775807:=by have:=hT.le;have:=hT.max;unfold maxLen at this;omega
 by_cases h0:r < 0
 ·rw[show dM T r=r from if_pos (.inl h0)]
  go_enter Tryz.func312,Tryz.ntmps312
  go_wp2_with fail
  go_ret
  exact⟨rfl,rfl⟩
 by_cases h1:(T.length:Int)<=r
 ·rw[show dM T r=r from if_pos (.inr h1)]
  have q0:decide (r < 0)=false:=by simpa using h0
  have q1:decide ((n:Int)<=r)=true:=by simp;omega
  go_enter Tryz.func312,Tryz.ntmps312
  go_wp2_with fail
  go_ret
  exact⟨rfl,rfl⟩
 ·rw[show dM T r=T.getD r.toNat 0 from if_neg (by omega)]
  obtain⟨k,rfl⟩:∃ k:Nat,r=k:=⟨r.toNat,by omega⟩
  have hk:k < n:=by omega
  obtain⟨b,off,rfl,-,hc⟩:=hT.at (by omega)
  have c0:=hc k hk
  have q0:decide ((k:Int) < 0)=false:=by simp
  have q1:decide ((n:Int)<=(k:Int))=false:=by simp;omega
  have q2:decide (n<=k)=false:=by simp;omega
  have i0':(0:Int)<=k:=by omega
  have i1':(k:Int) < n:=by omega
  rw[iTn]
  generalize T.getD k 0=z at *
  clear hc hl h0 h1
  go_enter Tryz.func312,Tryz.ntmps312
  go_wp2_with fail
  go_ret
  exact⟨rfl,rfl⟩
theorem aEn (k:Int){b off j:Nat}{m:In}(hj:j < n)(c0:W.cell? ⟨b,off+j*6,none⟩=some (.i m.op))(c4:W.cell? ⟨b,off+j*6+4,none⟩=some (.i m.k))(hs:n<=9223372036854775807) :
  Calls Tryz.prog 317 #[.slice (some ⟨b,off,none⟩) n cap,.i (j:Int),.i k] W fun e W'=>e=.returned (.bool (m.op==1&&m.k==k))/\W'=W:=by
 have i0':(0:Int)<=j:=by omega
 have i1':(j:Int) < n:=by omega
 by_cases h1:m.op=1
 ·have q1:(m.op==1)=true:=by simpa using h1
  rw[q1]
  clear h1
  go_enter Tryz.func317,Tryz.ntmps317
  go_wp2_with fail
  go_ret
  exact⟨by simp,rfl⟩
 ·have q1:(m.op==1)=false:=by simpa using h1
  rw[q1]
  clear h1
  go_enter Tryz.func317,Tryz.ntmps317
  go_wp2_with fail
  go_ret
  exact⟨rfl,rfl⟩
theorem aIq (r k:Int){M:List In}(hM:Ins W a n cap M)(hr:dW r n) :
  Calls Tryz.prog 317 #[.slice a n cap,.i r,.i k] W fun e W'=>e=.returned (.bool (isN M r k))/\W'=W:=by
 have hs:=hM.short
 obtain⟨j,rfl⟩:∃ k:Nat,r=k:=⟨r.toNat,by have:=hr.1;omega⟩
 have hj:j < n:=by have:=hr.2;omega
 obtain⟨b,off,rfl,-,hc⟩:=hM.at (by omega)
 obtain⟨c0,-,-,-,c4,-⟩:=hc j hj
 unfold isN rg
 rw[iTn]
 exact aEn k hj c0 c4 hs
abbrev lnA (L:List (Bool × Int)):Array Value:=(L.flatMap fun p=>[Value.bool p.1,.i p.2]).toArray
theorem aI1:∀(L:List (Bool × Int)) (i:Nat),i < L.length->(lnA L)[i*2]?=some (.bool (L.getD i (false,0)).1)/\(lnA L)[i*2+1]?=some (.i (L.getD i (false,0)).2)
 | [],i,h=>by simp at h
 | p::L,0,h=>by simp[lnA]
 | p::L,i+1,h=>by
  have:=aI1 L i (by simpa using h)
  simp only[lnA,List.flatMap_cons,List.getElem?_toArray] at this ⊢
  rw[gAr (by simp;omega),gAr (by simp;omega)]
  simp only[lLc,lLn]
  rw[show (i+1)*2-(0+1+1)=i*2 by omega,show (i+1)*2+1-(0+1+1)=i*2+1 by omega]
  simpa using this
theorem aSl (own:Int)(L:List (Bool × Int)){k:Nat}(h:k < L.length):fsZ own (L.drop k)=if (L.getD k (false,0)).1=true then(L.getD k (false,0)).2 else fsZ own (L.drop (k+1)):=by
 rw[List.drop_eq_getElem_cons h,fsZ,gdE,gEg h]
 rfl
theorem bQ (own:Int){g:Nat}{L:List (Bool × Int)}(hL:aB W g 344 (lnA L))(hn:L.length=n)(h3:n<=3) :
  Calls Tryz.prog 316 #[.i own,.slice (some ⟨g,0,none⟩) n n] W fun e W'=>e=.returned (.i (fsZ own L))/\Below W.heap.size W W':=by
 have HL:=aA hL
 have HN:=aA hn
 have HG:=aA fun i h=>aI1 L i h
 have HD:=aA fun k h=>aSl own L (k:=k) h
 have H0:Hid (fsZ own (L.drop 0)=fsZ own L):=aA rfl
 generalize fsZ own L=z at *
 clear hL hn
 go_enter Tryz.func316,Tryz.ntmps316
 go_wp2_with fail
 go_loopw [9] (fun i wr=>∃ k:Nat,k<=n/\i=.i k/\Hid (fsZ own (L.drop k)=z)/\Hid (Below W.heap.size W wr)) (fun i _=>n-(intOf i).toNat)
 case atStart=>exact⟨0,nZl _,rfl,aA H0.o,aA (Below.refl _ _)⟩
 case round =>
  obtain⟨k,hk,rfl,HZ,HB⟩:=hrel
  rename World=>V
  clear H0
  by_cases hlt:k < n
  ·obtain⟨g0,g1⟩:=HG.o k (by rw[HN.o];exact hlt)
   have hc:=HL.o.below HB.o
   have c0:=hc.cell _ g0
   have c1:=hc.cell _ g1
   have hD:=HD.o k (by rw[HN.o];exact hlt)
   rw[HZ.o] at hD
   generalize L.getD k (false,0)=p at *
   obtain⟨pb,pr⟩:=p
   have HD2:=aA hD
   have i0':(0:Int)<=k:=by omega
   have i1':(k:Int) < n:=by omega
   have HB2:=aA (bel HB.o (aD V (.cells #[.bool pb,.i pr] 344)))
   clear hc hD g0 g1
   cases pb
   ·go_wp2_with fail
    go_roundw
    case rel=>exact⟨k+1,by omega,by go_num,aA (by have:=HD2.o;simpa using this.symm),HB2⟩
    case measure=>simp[intOf];omega
   ·go_wp2_with fail
    go_ret
    exact⟨aO (by have:=HD2.o;simpa using this.symm),HB2.o⟩
  ·obtain rfl:k=n:=by omega
   have hZ:=HZ.o
   rw[List.drop_of_length_le (by rw[HN.o];exact nLr _)] at hZ
   have HZ2:Hid (own=z):=aA hZ
   clear hZ
   go_wp2_with fail
   go_ret
   exact⟨aO HZ2.o,HB.o⟩
theorem aGt (f d:Int)(n:In)(W:World) :
  Calls Tryz.prog 313 #[.agg (kd f d),.agg (ia n)] W fun e W'=>e=.returned (.tuple #[.i (bnZ f d n).1,.bool (bnZ f d n).2])/\Below W.heap.size W W':=by
 have HL:=aA fun W=>Knd.oD f d W
 have HH:=aA fun W=>Knd.kX f d W
 have HO:=aA fun W=>Knd.nV f d W
 have HB:=aA (bel (aD W (.cells (kd f d) 35)) (aD (W.alloc (.cells (kd f d) 35)) (.cells (ia n) 76)))
 obtain⟨op,a,b,c,k,s⟩:=n
 unfold bnZ
 dsimp only
 by_cases h2:op=2
 ·subst h2
  rw[if_pos rfl]
  by_cases h3:k=3
  ·subst h3
   rw[if_pos rfl]
   go_enter Tryz.func313,Tryz.ntmps313
   go_wp2_with fail
   refine(HL.o _).mono ?_
   rintro e V1 ⟨rfl,hb⟩
   go_wp2_with fail
   exact bPr (v:=.tuple #[.i (gD f d),.bool true]) (by simp[results,Tryz.results313,go_sem]) rfl ⟨rfl,bel HB.o hb⟩
  rw[if_neg h3]
  by_cases h4:k=4
  ·subst h4
   rw[if_pos rfl]
   clear h3
   go_enter Tryz.func313,Tryz.ntmps313
   go_wp2_with fail
   refine(HH.o _).mono ?_
   rintro e V1 ⟨rfl,hb⟩
   go_wp2_with fail
   exact bPr (v:=.tuple #[.i (dD f d),.bool true]) (by simp[results,Tryz.results313,go_sem]) rfl ⟨rfl,bel HB.o hb⟩
  rw[if_neg h4]
  by_cases h5:k=5
  ·subst h5
   rw[if_pos rfl]
   clear h3 h4
   go_enter Tryz.func313,Tryz.ntmps313
   go_wp2_with fail
   refine(HO.o _).mono ?_
   rintro e V1 ⟨rfl,hb⟩
   go_wp2_with fail
   exact bPr (v:=.tuple #[.i (bU f d),.bool true]) (by simp[results,Tryz.results313,go_sem]) rfl ⟨rfl,bel HB.o hb⟩
  rw[if_neg h5]
  have q3:(k==3)=false:=by simpa using h3
  have q4:(k==4)=false:=by simpa using h4
  have q5:(k==5)=false:=by simpa using h5
  clear h3 h4 h5
  go_enter Tryz.func313,Tryz.ntmps313
  go_wp2_with fail
  exact bPr (v:=.tuple #[.i 0,.bool false]) (by simp[results,Tryz.results313,go_sem]) rfl ⟨rfl,HB.o⟩
 ·rw[if_neg h2]
  have q2:(op != 2)=true:=by simpa using h2
  clear h2
  go_enter Tryz.func313,Tryz.ntmps313
  go_wp2_with fail
  exact bPr (v:=.tuple #[.i 0,.bool false]) (by simp[results,Tryz.results313,go_sem]) rfl ⟨rfl,HB.o⟩
theorem bBf {n:In}(h:¬0 < ar n.op):dB n T=n:=by
 unfold dB
 rw[if_neg h,if_neg (by omega),if_neg (by omega)]
theorem bCn {n:In}(h:ar n.op=1):dB n T=⟨n.op,dM T n.a,n.b,n.c,n.k,n.s⟩:=by
 unfold dB
 rw[h];rfl
theorem bCo {n:In}(h:ar n.op=2):dB n T=⟨n.op,dM T n.a,dM T n.b,n.c,n.k,n.s⟩:=by
 unfold dB
 rw[h];rfl
theorem bCp {n:In}(h:ar n.op=3):dB n T=⟨n.op,dM T n.a,dM T n.b,dM T n.c,n.k,n.s⟩:=by
 unfold dB
 rw[h];rfl
theorem gM (n:In){m:Nat}(hT:Ints W a m cap T) :
  Calls Tryz.prog 295 #[.agg (ia n),.slice a m cap] W fun e W'=>e=.returned (.agg (ia (dB n T)))/\Below W.heap.size W W':=by
 have HA:=aA fun W=>Spn.bR n.op W
 have hb2:=bel (aD W (.cells (ia n) 76)) (aD (W.alloc (.cells (ia n) 76)) (.cells (ia i0) 76))
 have HE:=aA fun V r (h:Below W.heap.size W V)=>aSg r (hT.later h)
 have HB0:=aA hb2
 rcases Cde.jR n.op with h|h|h|h|h
 rw[bBf (by rw[ar,h];decide)]
 rotate_left
 rw[bBf (by rw[ar,h];decide)]
 rotate_left
 rw[bCn h]
 rotate_left
 rw[bCo h]
 rotate_left
 rw[bCp h]
 rotate_left
 all_goals
  rw[h] at HA
  clear h
  go_enter Tryz.func295,Tryz.ntmps295
  go_wp2_with (first
   | (go_at_call 81;refine(HA.o _).mono ?_;rintro e w' ⟨rfl,rfl⟩)
   | (go_at_call 312;refine(HE.o _ _ (by first | exact bel (aD W _) (aD _ _) | exact bel ((aD W _).setCell (by simp) _) (aD _ _) | exact bel (((aD W _).setCell (by simp) _).setCell (by simp) _) (aD _ _))).mono ?_;rintro e w' ⟨rfl,rfl⟩))
  exact bPr (v:=.agg (ia _)) (by simp[results,Tryz.results295,go_sem]) rfl ⟨rfl,by first|exact bel (aD W _) (aD _ _)|exact bel ((aD W _).setCell (by simp) _) (aD _ _)|exact bel (((aD W _).setCell (by simp) _).setCell (by simp) _) (aD _ _)|exact bel ((((aD W _).setCell (by simp) _).setCell (by simp) _).setCell (by simp) _) (aD _ _)⟩
end Go.Proofs.Fld
namespace Go.Proofs.Fld
open Go.RowKit Go.IntWalk Knd
open Cde (In i0 ia kd cd Ins rM aH aJ bE dY bZ gK arM abc lL zA fA aFn spn aRg)
open YticnbcfmbhjbgabGreatDoor (aB)
variable {M:List In} {m:In}
theorem aV4 (M:List In)(q:Nat):(M.map In.k).getD q 0=(M.getD q i0).k:=by
 rw[gdE,gEm,gdE]
 cases M[q]? <;> rfl
theorem bAa (M:List In)(m:In):kaL M m=gK (M.map In.k) m:=by
 unfold kaL gK
 apply List.map_congr_left
 intro r hr
 rw[aV4]
theorem aMl (M:List In)(m:In):alN M m=true↔∀ j,j < bZ m->(rg M (lL m j)).op=1:=by
 unfold alN
 rw[lAe]
 constructor
 ·intro h j hj
  have:=h ((dY m).getD j 0) (Cde.pY 0 (by rw[Cde.gL];exact hj))
  rw[Cde.sD m j hj] at this
  simpa using this
 ·intro h r hr
  obtain⟨j,hj,rfl⟩:=List.getElem_of_mem hr
  rw[Cde.gL] at hj
  have:=h j hj
  rw[<-Cde.sD m j hj,gdE,gEg (by rw[Cde.gL];exact hj)] at this
  simpa using this
theorem bA8 {j:Nat}(hj:j < bZ m)(h:(rg M (lL m j)).op≠1):rkZ M m=(0,false):=by
 unfold rkZ
 rw[if_neg]
 rw[aMl]
 intro h2
 exact h (h2 j hj)
theorem aYo (h:∀ j,j < bZ m->(rg M (lL m j)).op=1):rkZ M m=((vl m.op m.k m.s (gK (M.map In.k) m)).1,(vl m.op m.k m.s (gK (M.map In.k) m)).2==0):=by
 unfold rkZ
 rw[if_pos ((aMl M m).2 h),bAa]
theorem aSk (n:In){va:Option Addr}{vn vc:Nat}{W:World}(hM:Ins W va vn vc M)(ho:bE n vn=true) :
  Calls Tryz.prog 314 #[.slice va vn vc,.agg (ia n)] W fun e W'=>e=.returned (.tuple #[.i (rkZ M n).1,.bool (rkZ M n).2])/\Below W.heap.size W W':=by
 have HA:=aA fun w=>Cde.xW n w
 have HR:=aA fun j hj=>Cde.oG ho (j:=j) hj
 have HS:=aA fun k (h:k < bZ n)=>Cde.aAz (M.map In.k) n h
 have HU:=aA fun k (h:k < bZ n)=>Cde.aMp (M.map In.k) n h
 have HG0:=aA fun k (h:k < bZ n)=>Cde.aRr (M.map In.k) n h
 have HLn:=aA fun k (h:k<=bZ n)=>Cde.aId (M.map In.k) n h
 have HD:=aA (Cde.aMo (M.map In.k) n)
 have HAl:=aA (Cde.eF (M.map In.k) n)
 have H00:Hid (arM (M.map In.k) n 0=abc n):=aA rfl
 have HNo:=aA fun j=>bA8 (M:=M) (m:=n) (j:=j)
 have HYes:=aA (aYo (M:=M) (m:=n))
 have h3':=Cde.jW n
 have hs:=hM.short
 have HMk:=aA fun q=>aV4 M q
 have HB0:=aA (aD W (.cells (ia n) 76))
 have HN0:=aA (aB.new W 76 (ia n))
 have HVW:=aA hM
 generalize arM (M.map In.k) n=Q at *
 generalize bZ n=m at *
 obtain⟨⟨X,x2⟩,hX⟩:∃ X,rkZ M n=X:=⟨_,rfl⟩
 rw[hX] at HNo HYes ⊢
 clear ho hM hX
 go_enter Tryz.func314,Tryz.ntmps314
 go_wp2_with fail
 refine(HA.o _).mono ?_
 rintro e V1 ⟨g,rfl,hg,hG,hb⟩
 have HN1:=aA (HN0.o.below hb)
 have HB1:=aA (bel HB0.o hb)
 have HG1:=aA hG
 have hg2:W.heap.size+1<=g:=by simpa using hg
 clear hG hb HN0 HB0 HA hg
 go_wp2_with fail
 go_loopw [15] (fun j wr=>∃ k:Nat,k<=m/\j=.i k/\Hid (∀ i,i < k->(rg M (lL n i)).op=1)/\Hid (aB wr g 3 (zA (Q k)))/\Hid (aB wr W.heap.size 76 (ia n))/\Hid (Below W.heap.size W wr)) (fun j _=>m-(intOf j).toNat)
 case atStart=>exact⟨0,nZl _,rfl,aA (fun i hi=>absurd hi (Nat.not_lt_zero _)),aA (by rw[H00.o];exact HG1.o),HN1,HB1⟩
 case round =>
  obtain⟨k,hk,rfl,HF,HG,HN,HB⟩:=hrel
  rename World=>V2
  clear HG1 HN1 HB1
  by_cases hlt:k < m
  ·obtain⟨p0,p1⟩:=HR.o k hlt
   have hl3:=HLn.o k hk
   have c0:=HG.o.cell k (fA _ k (by rw[hl3];omega))
   rw[HG0.o k hlt] at c0
   have HX:=HG.o
   rw[HS.o k hlt] at HX
   have HX2:=aA fun x=>aFn (k:=k) HX (by rw[lLt,HAl.o];omega) x
   have HU2:=aA (HU.o k hlt)
   have y0:=HG.o.frozen k
   have HF2:=aA fun(h:(rg M (lL n k)).op=1) (i:Nat) (hi:i < k+1)=>show (rg M (lL n i)).op=1 from by
    by_cases e:i < k
    ·exact HF.o i e
    ·obtain rfl:i=k:=by omega
     exact h
   have HNo2:=aA (HNo.o k hlt)
   obtain⟨q,hq⟩:∃ q:Nat,lL n k=(q:Int):=⟨(lL n k).toNat,by omega⟩
   rw[hq] at c0 p1 HU2
   unfold rg at HF2 HNo2
   rw[hq] at HF2 HNo2
   simp only[iTn] at p1 HU2 HF2 HNo2
   rw[HMk.o q] at HU2
   obtain⟨b,off,rfl,-,hat⟩:=(HVW.o.later HB.o).at (by omega)
   obtain⟨c1,-,-,-,c5,-⟩:=hat q (by omega)
   generalize M.getD q i0=z at *
   have HX3:=aA (HX2.o z.k)
   rw[HU2.o] at HX3
   have HN3:=aA (HN.o.other (p:=⟨g,k,none⟩) (by simp;omega) (.i z.k))
   have HB4:=aA (HB.o.setCell (p:=⟨g,k,none⟩) (by simp;omega) (.i z.k))
   have i0':(0:Int)<=q:=by omega
   have i1':(q:Int) < vn:=by omega
   have j0:(0:Int)<=k:=by omega
   have j1:(k:Int) < m:=by omega
   clear HX HX2 HU2 hat hq p0 p1 hl3 HF
   by_cases hop:z.op=1
   ·have q1:(z.op != 1)=false:=by simpa using hop
    have HF3:=aA (HF2.o hop)
    clear HF2 hop HNo2
    go_wp2_with fail
    go_roundw
    case rel=>exact⟨k+1,by omega,by go_num,aA HF3.o,HX3,HN3,HB4⟩
    case measure=>simp[intOf];omega
   ·have q1:(z.op != 1)=true:=by simpa using hop
    have HZ:=aA (HNo2.o hop)
    clear HF2 hop HNo2
    go_wp2_with fail
    have hz:=HZ.o
    cases hz
    exact bPr (v:=.tuple #[.i 0,.bool false]) (by simp[results,Tryz.results314,go_sem]) rfl ⟨rfl,HB.o⟩
  ·obtain rfl:k=m:=by omega
   have hI:=HG.o
   rw[HD.o] at hI
   have hI2:=aRg hI (by rw[<-HD.o];exact HLn.o k (nLr _))
   rw[HAl.o] at hI2
   have HVa:=aA (Spn.jP n.op n.k n.s _ _ _ _ _ (spn hI2))
   have HY:=aA (HYes.o HF.o)
   obtain⟨e0,-,-,-,e4,e5⟩:=aH HN.o
   clear hI hI2 HYes HNo
   unfold vl at HY
   generalize Spn.bK n.op n.k n.s (gK (M.map In.k) n)=Y at *
   go_wp2_with fail
   refine HVa.o.mono ?_
   rintro e V3 ⟨rfl,hb⟩
   have HB3:=aA (bel HB.o hb)
   clear hb
   go_wp2_with fail
   have hy:=HY.o
   cases hy
   exact bPr (v:=.tuple #[.i Y.1,.bool (Y.2==0)]) (by simp[results,Tryz.results314,go_sem]) rfl ⟨rfl,HB3.o⟩
theorem bCm (h:m.op=9\/m.op=17\/m.op=18\/m.op=20\/m.op=23):stZ M m=(0,m.a==m.b):=by unfold stZ;rw[if_pos h]
theorem bCl (h:m.op=19\/m.op=21\/m.op=22):stZ M m=(1,m.a==m.b):=by unfold stZ;rw[if_neg (by omega),if_pos h]
theorem bCk (h:m.op=10\/m.op=15):stZ M m=(0,isN M m.a 0 || isN M m.b 0):=by unfold stZ;rw[if_neg (by omega),if_neg (by omega),if_pos h]
theorem bCi (h:m.op=12):stZ M m=(0,isN M m.b 1):=by unfold stZ;rw[if_neg (by omega),if_neg (by omega),if_neg (by omega),if_pos h]
theorem bCj (h:m.op=32\/m.op=31):stZ M m=(0,m.k==0):=by unfold stZ;rw[if_neg (by omega),if_neg (by omega),if_neg (by omega),if_neg (by omega),if_pos h]
theorem aSm (m:In){va:Option Addr}{vn vc:Nat}{W:World}(hM:Ins W va vn vc M)(ho:bE m vn=true) :
  Calls Tryz.prog 315 #[.slice va vn vc,.agg (ia m)] W fun e W'=>e=.returned (.tuple #[.i (stZ M m).1,.bool (stZ M m).2])/\Below W.heap.size W W':=by
 have hb1:=aD W (.cells (ia m) 76)
 have HI:=aA fun r k (h:dW r vn)=>aIq r k (hM.later hb1) h
 have HB:=aA hb1
 have hin:=fun r=>nC ho (r:=r)
 have HE:=aA (aH (aB.new W 76 (ia m)))
 clear hM ho hb1
 by_cases h1:m.op=9\/m.op=17\/m.op=18\/m.op=20\/m.op=23
 ·rw[bCm h1]
  obtain⟨op,a,b,c,k,s⟩:=m
  dsimp only at h1
  obtain⟨e0,e1,e2,e3,e4,e5⟩:=HE.o
  clear hin HI
  rcases h1 with rfl|rfl|rfl|rfl|rfl
  all_goals
   go_enter Tryz.func315,Tryz.ntmps315
   go_wp2_with fail
   generalize hV:W.alloc (.cells (ia ⟨_,a,b,c,k,s⟩) 76)=V at *
   generalize hq:W.heap.size=q at *
   go_quiet (fail)
   go_wp2_with fail
   exact bPr (v:=.tuple #[.i 0,.bool (a==b)]) (by simp[results,Tryz.results315,go_sem]) rfl ⟨rfl,by rw[<-hq] at *;exact Spn.vV HB.o _⟩
 by_cases h2:m.op=19\/m.op=21\/m.op=22
 ·rw[bCl h2]
  obtain⟨op,a,b,c,k,s⟩:=m
  dsimp only at h2
  obtain⟨e0,e1,e2,e3,e4,e5⟩:=HE.o
  clear hin HI h1
  rcases h2 with rfl|rfl|rfl
  all_goals
   go_enter Tryz.func315,Tryz.ntmps315
   go_wp2_with fail
   generalize hV:W.alloc (.cells (ia ⟨_,a,b,c,k,s⟩) 76)=V at *
   generalize hq:W.heap.size=q at *
   go_quiet (fail)
   go_wp2_with fail
   exact bPr (v:=.tuple #[.i 1,.bool (a==b)]) (by simp[results,Tryz.results315,go_sem]) rfl ⟨rfl,by rw[<-hq] at *;exact Spn.vV HB.o _⟩
 by_cases h3:m.op=10\/m.op=15
 ·rw[bCk h3]
  have ha2:ar m.op=2:=by rcases h3 with e|e <;> rw[e] <;> decide
  have HJ1:=aA (HI.o m.a 0 (hin m.a (by rw[jF ha2];simp)))
  have HJ2:=aA (HI.o m.b 0 (hin m.b (by rw[jF ha2];simp)))
  obtain⟨op,a,b,c,k,s⟩:=m
  dsimp only at h3 HJ1 HJ2 ⊢
  clear hin HI h1 h2 ha2 HE
  generalize isN M a 0=x at *
  generalize isN M b 0=y at *
  rcases h3 with rfl|rfl
  all_goals
   cases x
   ·go_enter Tryz.func315,Tryz.ntmps315
    go_wp2_with fail
    refine HJ1.o.mono ?_
    rintro e w' ⟨rfl,rfl⟩
    go_wp2_with fail
    refine HJ2.o.mono ?_
    rintro e w' ⟨rfl,rfl⟩
    go_wp2_with fail
    exact bPr (v:=.tuple #[.i 0,.bool y]) (by simp[results,Tryz.results315,go_sem]) rfl ⟨by simp,HB.o⟩
   ·go_enter Tryz.func315,Tryz.ntmps315
    go_wp2_with fail
    refine HJ1.o.mono ?_
    rintro e w' ⟨rfl,rfl⟩
    go_wp2_with fail
    exact bPr (v:=.tuple #[.i 0,.bool true]) (by simp[results,Tryz.results315,go_sem]) rfl ⟨by simp,HB.o⟩
 by_cases h4:m.op=12
 ·rw[bCi h4]
  have ha2:ar m.op=2:=by rw[h4];decide
  have HJ2:=aA (HI.o m.b 1 (hin m.b (by rw[jF ha2];simp)))
  obtain⟨op,a,b,c,k,s⟩:=m
  dsimp only at h4 HJ2 ⊢
  clear hin HI h1 h2 h3 ha2 HE
  generalize isN M b 1=y at *
  subst h4
  go_enter Tryz.func315,Tryz.ntmps315
  go_wp2_with fail
  refine HJ2.o.mono ?_
  rintro e w' ⟨rfl,rfl⟩
  go_wp2_with fail
  exact bPr (v:=.tuple #[.i 0,.bool y]) (by simp[results,Tryz.results315,go_sem]) rfl ⟨rfl,HB.o⟩
 by_cases h5:m.op=32\/m.op=31
 ·rw[bCj h5]
  obtain⟨op,a,b,c,k,s⟩:=m
  dsimp only at h5
  obtain⟨e0,e1,e2,e3,e4,e5⟩:=HE.o
  clear hin HI h1 h2 h3 h4
  rcases h5 with rfl|rfl
  all_goals
   go_enter Tryz.func315,Tryz.ntmps315
   go_wp2_with fail
   generalize hV:W.alloc (.cells (ia ⟨_,a,b,c,k,s⟩) 76)=V at *
   generalize hq:W.heap.size=q at *
   go_quiet (fail)
   go_wp2_with fail
   exact bPr (v:=.tuple #[.i 0,.bool (k==0)]) (by simp[results,Tryz.results315,go_sem]) rfl ⟨rfl,by rw[<-hq] at *;exact Spn.vV HB.o _⟩
 ·rw[show stZ M m=(0,false) by unfold stZ;rw[if_neg h1,if_neg h2,if_neg h3,if_neg h4,if_neg h5]]
  obtain⟨op,a,b,c,k,s⟩:=m
  dsimp only at *
  have q9:(op==9)=false:=by simp;omega
  have q17:(op==17)=false:=by simp;omega
  have q18:(op==18)=false:=by simp;omega
  have q20:(op==20)=false:=by simp;omega
  have q23:(op==23)=false:=by simp;omega
  have q19:(op==19)=false:=by simp;omega
  have q21:(op==21)=false:=by simp;omega
  have q22:(op==22)=false:=by simp;omega
  have q10:(op==10)=false:=by simp;omega
  have q15:(op==15)=false:=by simp;omega
  have q12:(op==12)=false:=by simp;omega
  have q32:(op==32)=false:=by simp;omega
  have q31:(op==31)=false:=by simp;omega
  clear hin HI h1 h2 h3 h4 h5 HE
  go_enter Tryz.func315,Tryz.ntmps315
  go_wp2_with fail
  exact bPr (v:=.tuple #[.i 0,.bool false]) (by simp[results,Tryz.results315,go_sem]) rfl ⟨rfl,HB.o⟩
end Go.Proofs.Fld
