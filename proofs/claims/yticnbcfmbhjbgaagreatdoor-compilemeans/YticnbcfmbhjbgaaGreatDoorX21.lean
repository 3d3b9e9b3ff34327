import Derived.Test.YticnbcfmbhjbgaaGreatDoorX20
set_option maxRecDepth 100000
set_option maxHeartbeats 32000000
set_option linter.unusedVariables false
namespace Go.Proofs.Fld
section
open Go.RowKit Go.IntWalk Knd
open YticnbcfmbhjbgaaGreatDoor (Wd dQ Fits inpV)
open Cde (In i0 eF dC bE eH kM eU jK cZ tK nA fZ gW nE tJ tH)
open Vfy (pI aW aI w32 eZ)
variable {a:Int}
abbrev ar:=Spn.ar
abbrev vl:=Spn.bK
abbrev rg (M:List In)(r:Int):In:=M.getD r.toNat i0
def isN (M:List In)(r k:Int):Bool:=(rg M r).op==1&&(rg M r).k==k
def dP (T:List Int)(r:Int):Int:=if r < 0\/(T.length:Int)<=r then r else T.getD r.toNat 0
def dH (n:In)(T:List Int):In :=
 ⟨n.op,if 0 < ar n.op then dP T n.a else n.a,if 1 < ar n.op then dP T n.b else n.b,if 2 < ar n.op then dP T n.c else n.c,n.k,n.s⟩
def bnZ (f d:Int)(n:In):Int × Bool :=
 if n.op=2 then(if n.k=3 then(fG f d,true) else if n.k=4 then(cK f d,true) else if n.k=5 then(bL f d,true) else(0,false)) else(0,false)
def kaL (M:List In)(n:In):List Int:=(eF n).map fun r=>(rg M r).k
def alN (M:List In)(n:In):Bool:=(eF n).all fun r=>(rg M r).op==1
def rkZ (M:List In)(n:In):Int × Bool:=if alN M n=true then((vl n.op n.k n.s (kaL M n)).1,(vl n.op n.k n.s (kaL M n)).2==0) else(0,false)
def stZ (M:List In)(n:In):Int × Bool :=
 if n.op=9\/n.op=17\/n.op=18\/n.op=20\/n.op=23 then(0,n.a==n.b) else
 if n.op=19\/n.op=21\/n.op=22 then(1,n.a==n.b) else
 if n.op=10\/n.op=15 then(0,isN M n.a 0 || isN M n.b 0) else
 if n.op=12 then(0,isN M n.b 1) else
 if n.op=32\/n.op=31 then(0,n.k==0) else(0,false)
def knZ (f d:Int)(M:List In)(n:In):Int × Bool:=if (bnZ f d n).2=true then bnZ f d n else if (rkZ M n).2=true then rkZ M n else stZ M n
def mO (M:List In)(n:In):List (Bool × Int) :=
 if n.op=8\/n.op=17 then[(isN M n.a 0,n.b),(isN M n.b 0,n.a)] else
 if n.op=10 then[(isN M n.a 1,n.b),(isN M n.b 1,n.a)] else
 if n.op=16 then[(n.a==n.b,n.a),(isN M n.a 0,n.b),(isN M n.b 0,n.a)] else
 if n.op=15 then[(n.a==n.b,n.a),(isN M n.a (-1),n.b),(isN M n.b (-1),n.a)] else
 if n.op=24\/n.op=25 then[(n.a==n.b,n.a)] else
 if n.op=9\/n.op=13\/n.op=14 then[(isN M n.b 0,n.a)] else
 if n.op=11 then[(isN M n.b 1,n.a)] else
 if n.op=29\/n.op=30 then[(n.k==0,n.a)] else
 if n.op=32 then[(n.k==1,n.a)] else
 if n.op=5 then[((rg M n.a).op==5,(rg M n.a).a)] else
 if n.op=6 then[((rg M n.a).op==6,n.a)] else
 if n.op=28 then[(isN M n.a 0,n.c),((rg M n.a).op==1,n.b),(n.b==n.c,n.b)] else
 if n.op=27 then[(n.a==n.b || n.a==n.c,n.a),(n.b==n.c,n.b)] else
 if n.op=26 then[(n.b==n.c,n.b)] else[]
def fsZ (own:Int):List (Bool × Int)->Int
 | []=>own
 | p::L=>if p.1=true then p.2 else fsZ own L
def nuI (x:Int):In:=⟨1,0,0,0,x,0⟩
def nwI (f d:Int)(M:List In)(m:In):In:=if (knZ f d M m).2=true then nuI (knZ f d M m).1 else m
def nwT (f d:Int)(M:List In)(m:In)(own:Int):Int:=if (knZ f d M m).2=true then own else fsZ own (mO M m)
def foS (f d:Int)(s:List In × List Int)(n:In):List In × List Int :=
 (s.1++[nwI f d s.1 (dH n s.2)],s.2++[nwT f d s.1 (dH n s.2) s.1.length])
def oZ (f d:Int)(L:List In):List In × List Int:=L.foldl (foS f d) ([],[])
theorem yN (f d:Int)(L:List In)(n:In):oZ f d (L++[n])=foS f d (oZ f d L) n:=by simp[oZ]
theorem xB (f d:Int)(L:List In):∀ k,k<=L.length->(oZ f d (L.take k)).1.length=k/\(oZ f d (L.take k)).2.length=k
 | 0,_=>by simp[oZ]
 | k+1,h=>by
  have ih:=xB f d L k (by omega)
  rw[Cde.aG i0 (by omega),yN,foS]
  simp[ih.1,ih.2]
def foO (f d:Int)(L:List In)(out:Int):Int:=(oZ f d L).2.getD out.toNat 0
def fdL (f d:Int)(L:List In)(out:Int):List In:=if aW f d (oZ f d L).1 (foO f d L out)=0 then(oZ f d L).1 else L
def fdO (f d:Int)(L:List In)(out:Int):Int:=if aW f d (oZ f d L).1 (foO f d L out)=0 then foO f d L out else out
theorem nI {M Z:List In}{i:Nat}(h:i < M.length):(M++Z).getD i i0=M.getD i i0:=by
 rw[gdE,gAl h,<-gdE]
theorem kT (M:List In)(n:In):(M++[n]).getD M.length i0=n:=by simp[List.getD_eq_getElem?_getD]
theorem bR (V:List Int)(x:Int):(V++[x]).getD V.length 0=x:=by simp[List.getD_eq_getElem?_getD]
theorem ofI (ha:w32 a):(BitVec.ofInt 64 a).toInt=a:=by
 obtain⟨h1,h2⟩:=ha
 rw[BitVec.toInt_ofInt]
 exact Int.bmod_eq_of_le (by omega) (by omega)
theorem aKb (ha:w32 a):bits .and .i64 a a=a:=by
 have:=Spn.gV .and a a
 simp only[Spn.nW.bv,BitVec.and_self,ofI ha] at this
 exact this
theorem aPn (ha:w32 a):bits .or .i64 a a=a:=by
 have:=Spn.gV .or a a
 simp only[Spn.nW.bv,BitVec.or_self,ofI ha] at this
 exact this
theorem aL8 (a:Int):bits .xor .i64 a a=0:=by
 have:=Spn.gV .xor a a
 simp only[Spn.nW.bv,BitVec.xor_self] at this
 exact this
theorem aAw (a:Int):bits .and .i64 a 0=0:=by
 have:=Spn.gV .and a 0
 simp only[Spn.nW.bv,show BitVec.ofInt 64 0=0#64 from rfl,BitVec.and_zero] at this
 exact this
theorem aB3 (a:Int):bits .and .i64 0 a=0:=by
 have:=Spn.gV .and 0 a
 simp only[Spn.nW.bv,show BitVec.ofInt 64 0=0#64 from rfl,BitVec.zero_and] at this
 exact this
theorem aPo (ha:w32 a):bits .or .i64 a 0=a:=by
 have:=Spn.gV .or a 0
 simp only[Spn.nW.bv,show BitVec.ofInt 64 0=0#64 from rfl,BitVec.or_zero,ofI ha] at this
 exact this
theorem aRw (ha:w32 a):bits .or .i64 0 a=a:=by
 have:=Spn.gV .or 0 a
 simp only[Spn.nW.bv,show BitVec.ofInt 64 0=0#64 from rfl,BitVec.zero_or,ofI ha] at this
 exact this
theorem aL9 (ha:w32 a):bits .xor .i64 a 0=a:=by
 have:=Spn.gV .xor a 0
 simp only[Spn.nW.bv,show BitVec.ofInt 64 0=0#64 from rfl,BitVec.xor_zero,ofI ha] at this
 exact this
theorem aMi (ha:w32 a):bits .xor .i64 0 a=a:=by
 have:=Spn.gV .xor 0 a
 simp only[Spn.nW.bv,show BitVec.ofInt 64 0=0#64 from rfl,BitVec.zero_xor,ofI ha] at this
 exact this
theorem aKa (ha:w32 a):bits .and .i64 a (-1)=a:=by
 have:=Spn.gV .and a (-1)
 simp only[Spn.nW.bv,show BitVec.ofInt 64 (-1)=BitVec.allOnes 64 from rfl,BitVec.and_allOnes,ofI ha] at this
 exact this
theorem aBo (ha:w32 a):bits .and .i64 (-1) a=a:=by
 have:=Spn.gV .and (-1) a
 simp only[Spn.nW.bv,show BitVec.ofInt 64 (-1)=BitVec.allOnes 64 from rfl,BitVec.allOnes_and,ofI ha] at this
 exact this
theorem aAk {op k s x:Int}{xs:List Int}(h:vl op k s xs=(x,0)):(∀ z ∈ xs,w32 z)/\Spn.ex op k s (xs.getD 0 0) (xs.getD 1 0) (xs.getD 2 0)=(x,0)/\w32 x/\1<=ar op:=by
 have hw:=Vfy.xN h
 unfold vl Spn.bK at h
 split at h
 ·rename_i hm
  simp only[Spn.fT,bAt,dEt,lAe] at hm
  refine⟨fun z hz=>Spn.bY.1 (hm.2 z hz),?_,hw,hm.1.1.1⟩
  split at h
  ·rename_i h0
   split at h
   ·cases h
    exact Prod.ext rfl h0
   ·cases h
  ·rename_i h0
   exact absurd (congrArg Prod.snd h) h0
 ·cases h
theorem aHv {r:Int}{u:Bool}{i j:Int}(h:tH r u i=true)(hj:i<=j):tH r u j=true:=by
 unfold tH at *
 cases u
 ·exact h
 ·simp only[if_true,Spn.aK] at *
  omega
theorem aYd {n:In}{i j:Nat}(h:bE n i=true)(hj:i<=j):bE n j=true:=by
 simp only[bE,tJ,bAt] at *
 obtain⟨⟨h1,⟨h2,h3⟩,h4⟩,h5⟩:=h
 have e:(i:Int)<=j:=by omega
 exact⟨⟨h1,⟨aHv h2 e,aHv h3 e⟩,aHv h4 e⟩,h5⟩
structure Rv (f d:Int)(v:Wd)(M:List In)(V:List Int):Prop where
 len:V.length=M.length
 ok:∀ i,i < M.length->bE (M.getD i i0) i=true
 val:∀ i,i < M.length->cZ f d v V (M.getD i i0)=(V.getD i 0,0)
theorem Rv.nil (f d:Int)(v:Wd):Rv f d v [] []:=⟨rfl,fun i h=>by simp at h,fun i h=>by simp at h⟩
theorem Rv.snoc {f d:Int}{v:Wd}{M:List In}{V:List Int}{n:In}{x:Int}(h:Rv f d v M V)(ho:bE n M.length=true)(hx:cZ f d v V n=(x,0)):Rv f d v (M++[n]) (V++[x]):=by
 have hl:=h.len
 refine⟨by simp[hl],fun i hi=>?_,fun i hi=>?_⟩
 ·simp only[lLa,lLc,lLn] at hi
  by_cases e:i < M.length
  ·rw[nI e];exact h.ok i e
  ·obtain rfl:i=M.length:=by omega
   rw[kT];exact ho
 ·simp only[lLa,lLc,lLn] at hi
  by_cases e:i < M.length
  ·rw[nI e,Cde.aEa (aYd (h.ok i e) (by omega)),h.val i e,Cde.dJ (by omega)]
  ·obtain rfl:i=M.length:=by omega
   rw[kT,Cde.aEa (by rw[hl];exact ho),hx,<-hl,bR]
end
section
open Go.RowKit Go.IntWalk Knd
open YticnbcfmbhjbgaaGreatDoor (Wd dQ Fits inpV)
open Cde (In i0 eF dC bE eH kM eU jK cZ tK nA fZ gW nE tJ tH)
open Vfy (pI aW aI w32 eZ)
variable {m n:In} {d f op r s x z:Int} {v:Wd} {M:List In} {T V:List Int} {k:Nat}
def gv (V:List Int)(r:Int):Int:=V.getD r.toNat 0
theorem xP (h:ar n.op=1):eF n=[n.a]:=by unfold eF dC;rw[show Spn.ar n.op=1 from h];rfl
theorem jI (h:ar n.op=2):eF n=[n.a,n.b]:=by unfold eF dC;rw[show Spn.ar n.op=2 from h];rfl
theorem oV (h:ar n.op=3):eF n=[n.a,n.b,n.c]:=by unfold eF dC;rw[show Spn.ar n.op=3 from h];rfl
theorem av1 (h:ar n.op=1)(V:List Int):gW V n=[gv V n.a]:=by unfold gW;rw[xP h];rfl
theorem uV (h:ar n.op=2)(V:List Int):gW V n=[gv V n.a,gv V n.b]:=by unfold gW;rw[jI h];rfl
theorem av3 (h:ar n.op=3)(V:List Int):gW V n=[gv V n.a,gv V n.b,gv V n.c]:=by unfold gW;rw[oV h];rfl
def eD (r:Int)(i:Nat):Prop:=0<=r/\r.toNat < i
theorem nK {i:Nat}(h:bE n i=true)(hr:r ∈ eF n):eD r i:=Vfy.pK h hr
theorem Rv.reg (h:Rv f d v M V)(hr:eD r M.length):bE (rg M r) r.toNat=true/\cZ f d v V (rg M r)=(gv V r,0):=⟨h.ok _ hr.2,h.val _ hr.2⟩
theorem Rv.num (h:Rv f d v M V)(hr:eD r M.length)(ho:(rg M r).op=1):gv V r=(rg M r).k:=by
 have:=(h.reg hr).2
 rw[cZ,if_pos ho] at this
 exact(congrArg Prod.fst this).symm
theorem Rv.isN {f d:Int}{v:Wd}{M:List In}{V:List Int}(h:Rv f d v M V){r k:Int}(hr:eD r M.length)(ho:isN M r k=true):gv V r=k:=by
 simp only[Fld.isN,bAt,beq_iff_eq] at ho
 rw[h.num hr ho.1,ho.2]
theorem bO (h:1<=ar n.op):cZ f d v V n=vl n.op n.k n.s (gW V n):=by
 have h1:n.op≠1:=fun e=>by rw[e] at h;exact absurd h (by decide)
 have h2:n.op≠2:=fun e=>by rw[e] at h;exact absurd h (by decide)
 have h3:n.op≠3:=fun e=>by rw[e] at h;exact absurd h (by decide)
 rw[cZ,if_neg h1,if_neg h2,if_neg h3]
theorem Rv.neg (h:Rv f d v M V)(hr:eD r M.length)(ho:(rg M r).op=5):eD (rg M r).a M.length/\gv V r=- gv V (rg M r).a:=by
 obtain⟨h1,h2⟩:=h.reg hr
 have ha:ar (rg M r).op=1:=by rw[ho];decide
 have hin:=nK h1 (r:=(rg M r).a) (by rw[xP ha];simp)
 refine⟨⟨hin.1,Nat.lt_trans hin.2 hr.2⟩,?_⟩
 rw[bO (by omega),av1 ha] at h2
 obtain⟨-,e,-⟩:=aAk h2
 rw[ho] at e
 simp[Spn.ex] at e
 exact e.symm
theorem Rv.abs (h:Rv f d v M V)(hr:eD r M.length)(ho:(rg M r).op=6):0<=gv V r:=by
 obtain⟨h1,h2⟩:=h.reg hr
 have ha:ar (rg M r).op=1:=by rw[ho];decide
 rw[bO (by omega),av1 ha] at h2
 obtain⟨-,e,-⟩:=aAk h2
 rw[ho] at e
 simp[Spn.ex] at e
 have e':max (gv V (rg M r).a) (-gv V (rg M r).a)=gv V r:=e
 omega
theorem gJ {k y:Int}(h:vl op k s [x,y]=(z,0)):w32 x/\w32 y/\Spn.ex op k s x y 0=(z,0):=by
 obtain⟨h1,h2,-⟩:=aAk h
 exact⟨h1 x (by simp),h1 y (by simp),h2⟩
theorem mQ {k:Int}(h:vl op k s [x]=(z,0)):w32 x/\Spn.ex op k s x 0 0=(z,0):=by
 obtain⟨h1,h2,-⟩:=aAk h
 exact⟨h1 x (by simp),h2⟩
theorem aAh {k y u:Int}(h:vl op k s [x,y,u]=(z,0)):w32 x/\w32 y/\w32 u/\Spn.ex op k s x y u=(z,0):=by
 obtain⟨h1,h2,-⟩:=aAk h
 exact⟨h1 x (by simp),h1 y (by simp),h1 u (by simp),h2⟩
theorem aZd (h:Rv f d v M V)(ho:bE m M.length=true)(hx:cZ f d v V m=(x,0))(hs:(stZ M m).2=true):(stZ M m).1=x:=by
 have hin:=fun r=>nK ho (r:=r)
 unfold stZ at hs ⊢
 split at hs
 ·rename_i hop
  rw[if_pos hop]
  have ha:ar m.op=2:=by rcases hop with e|e|e|e|e <;> rw[e] <;> decide
  rw[bO (by omega),uV ha] at hx
  obtain⟨-,-,e⟩:=gJ hx
  have hab:m.a=m.b:=by simpa using hs
  rw[hab] at e
  generalize gv V m.b=y at e
  rcases hop with q|q|q|q|q <;> rw[q] at e <;> simp[Spn.ex,Spn.tr,aL8] at e <;> omega
 rename_i h1
 rw[if_neg h1]
 split at hs
 ·rename_i hop
  rw[if_pos hop]
  have ha:ar m.op=2:=by rcases hop with e|e|e <;> rw[e] <;> decide
  rw[bO (by omega),uV ha] at hx
  obtain⟨-,-,e⟩:=gJ hx
  have hab:m.a=m.b:=by simpa using hs
  rw[hab] at e
  generalize gv V m.b=y at e
  rcases hop with q|q|q <;> rw[q] at e <;> simp[Spn.ex,Spn.tr] at e <;> omega
 rename_i h2
 rw[if_neg h2]
 split at hs
 ·rename_i hop
  rw[if_pos hop]
  have ha:ar m.op=2:=by rcases hop with e|e <;> rw[e] <;> decide
  have ia:=hin m.a (by rw[jI ha];simp)
  have ib:=hin m.b (by rw[jI ha];simp)
  rw[bO (by omega),uV ha] at hx
  obtain⟨-,-,e⟩:=gJ hx
  simp only[Bool.or_eq_true] at hs
  rcases hs with hs|hs
  ·rw[h.isN ia hs] at e
   rcases hop with q|q <;> rw[q] at e <;> simp[Spn.ex,aB3] at e <;> omega
  ·rw[h.isN ib hs] at e
   rcases hop with q|q <;> rw[q] at e <;> simp[Spn.ex,aAw] at e <;> omega
 rename_i h3
 rw[if_neg h3]
 split at hs
 ·rename_i hop
  rw[if_pos hop]
  have ha:ar m.op=2:=by rw[hop];decide
  have ib:=hin m.b (by rw[jI ha];simp)
  rw[bO (by omega),uV ha] at hx
  obtain⟨-,-,e⟩:=gJ hx
  rw[h.isN ib hs,hop] at e
  simp[Spn.ex,Int.tmod_one] at e
  omega
 rename_i h4
 rw[if_neg h4]
 split at hs
 ·rename_i hop
  rw[if_pos hop]
  have ha:ar m.op=1:=by rcases hop with e|e <;> rw[e] <;> decide
  rw[bO (by omega),av1 ha] at hx
  obtain⟨-,e⟩:=mQ hx
  have hk:m.k=0:=by simpa using hs
  rw[hk] at e
  rcases hop with q|q <;> rw[q] at e <;> simp[Spn.ex,aAw] at e <;> omega
 ·cases hs
theorem aXk (h28:m.op≠28)(h:Rv f d v M V)(ho:bE m M.length=true)(hx:cZ f d v V m=(x,0)) :
  ∀ p ∈ mO M m,p.1=true->eD p.2 M.length/\gv V p.2=x:=by
 have hin:=fun r=>nK ho (r:=r)
 unfold mO
 by_cases hop:m.op=8\/m.op=17
 ·rw[if_pos hop]
  have ha:ar m.op=2:=by rcases hop with e|e <;> rw[e] <;> decide
  have ia:=hin m.a (by rw[jI ha];simp)
  have ib:=hin m.b (by rw[jI ha];simp)
  rw[bO (by omega),uV ha] at hx
  obtain⟨w1,w2,e⟩:=gJ hx
  intro p hp hs
  simp only[lMm,lNm,or_false] at hp
  rcases hp with rfl|rfl
  ·refine⟨ib,?_⟩
   rw[h.isN ia hs] at e
   rcases hop with q|q <;> rw[q] at e <;> simp[Spn.ex,aMi w2] at e <;> exact e
  ·refine⟨ia,?_⟩
   rw[h.isN ib hs] at e
   rcases hop with q|q <;> rw[q] at e <;> simp[Spn.ex,aL9 w1] at e <;> exact e
 rw[if_neg hop]
 clear hop
 by_cases hop:m.op=10
 ·rw[if_pos hop]
  have ha:ar m.op=2:=by rw[hop];decide
  have ia:=hin m.a (by rw[jI ha];simp)
  have ib:=hin m.b (by rw[jI ha];simp)
  rw[bO (by omega),uV ha] at hx
  obtain⟨w1,w2,e⟩:=gJ hx
  intro p hp hs
  simp only[lMm,lNm,or_false] at hp
  rcases hp with rfl|rfl
  ·refine⟨ib,?_⟩
   rw[h.isN ia hs,hop] at e
   simp[Spn.ex] at e
   exact e
  ·refine⟨ia,?_⟩
   rw[h.isN ib hs,hop] at e
   simp[Spn.ex] at e
   exact e
 rw[if_neg hop]
 clear hop
 by_cases hop:m.op=16
 ·rw[if_pos hop]
  have ha:ar m.op=2:=by rw[hop];decide
  have ia:=hin m.a (by rw[jI ha];simp)
  have ib:=hin m.b (by rw[jI ha];simp)
  rw[bO (by omega),uV ha,hop] at hx
  obtain⟨w1,w2,e⟩:=gJ hx
  intro p hp hs
  simp only[lMm,lNm,or_false] at hp
  rcases hp with rfl|rfl|rfl
  ·refine⟨ia,?_⟩
   have hab:m.a=m.b:=by simpa using hs
   rw[<-hab] at e
   simp[Spn.ex,aPn w1] at e
   exact e
  ·refine⟨ib,?_⟩
   rw[h.isN ia hs] at e
   simp[Spn.ex,aRw w2] at e
   exact e
  ·refine⟨ia,?_⟩
   rw[h.isN ib hs] at e
   simp[Spn.ex,aPo w1] at e
   exact e
 rw[if_neg hop]
 clear hop
 by_cases hop:m.op=15
 ·rw[if_pos hop]
  have ha:ar m.op=2:=by rw[hop];decide
  have ia:=hin m.a (by rw[jI ha];simp)
  have ib:=hin m.b (by rw[jI ha];simp)
  rw[bO (by omega),uV ha,hop] at hx
  obtain⟨w1,w2,e⟩:=gJ hx
  intro p hp hs
  simp only[lMm,lNm,or_false] at hp
  rcases hp with rfl|rfl|rfl
  ·refine⟨ia,?_⟩
   have hab:m.a=m.b:=by simpa using hs
   rw[<-hab] at e
   simp[Spn.ex,aKb w1] at e
   exact e
  ·refine⟨ib,?_⟩
   rw[h.isN ia hs] at e
   simp[Spn.ex,aBo w2] at e
   exact e
  ·refine⟨ia,?_⟩
   rw[h.isN ib hs] at e
   simp[Spn.ex,aKa w1] at e
   exact e
 rw[if_neg hop]
 clear hop
 by_cases hop:m.op=24\/m.op=25
 ·rw[if_pos hop]
  have ha:ar m.op=2:=by rcases hop with e|e <;> rw[e] <;> decide
  have ia:=hin m.a (by rw[jI ha];simp)
  rw[bO (by omega),uV ha] at hx
  obtain⟨w1,w2,e⟩:=gJ hx
  intro p hp hs
  simp only[lMm,lNm,or_false] at hp
  subst hp
  refine⟨ia,?_⟩
  have hab:m.a=m.b:=by simpa using hs
  rw[<-hab] at e
  rcases hop with q|q <;> rw[q] at e <;> simp[Spn.ex] at e <;> exact e
 rw[if_neg hop]
 clear hop
 by_cases hop:m.op=9\/m.op=13\/m.op=14
 ·rw[if_pos hop]
  have ha:ar m.op=2:=by rcases hop with e|e|e <;> rw[e] <;> decide
  have ia:=hin m.a (by rw[jI ha];simp)
  have ib:=hin m.b (by rw[jI ha];simp)
  rw[bO (by omega),uV ha] at hx
  obtain⟨w1,w2,e⟩:=gJ hx
  intro p hp hs
  simp only[lMm,lNm,or_false] at hp
  subst hp
  refine⟨ia,?_⟩
  rw[h.isN ib hs] at e
  rcases hop with q|q|q <;> rw[q] at e <;> simp[Spn.ex,Spn.fC] at e <;> exact e
 rw[if_neg hop]
 clear hop
 by_cases hop:m.op=11
 ·rw[if_pos hop]
  have ha:ar m.op=2:=by rw[hop];decide
  have ia:=hin m.a (by rw[jI ha];simp)
  have ib:=hin m.b (by rw[jI ha];simp)
  rw[bO (by omega),uV ha,hop] at hx
  obtain⟨w1,w2,e⟩:=gJ hx
  intro p hp hs
  simp only[lMm,lNm,or_false] at hp
  subst hp
  refine⟨ia,?_⟩
  rw[h.isN ib hs] at e
  simp[Spn.ex,Int.tdiv_one] at e
  exact e
 rw[if_neg hop]
 clear hop
 by_cases hop:m.op=29\/m.op=30
 ·rw[if_pos hop]
  have ha:ar m.op=1:=by rcases hop with e|e <;> rw[e] <;> decide
  have ia:=hin m.a (by rw[xP ha];simp)
  rw[bO (by omega),av1 ha] at hx
  obtain⟨w1,e⟩:=mQ hx
  intro p hp hs
  simp only[lMm,lNm,or_false] at hp
  subst hp
  refine⟨ia,?_⟩
  have hk:m.k=0:=by simpa using hs
  rw[hk] at e
  rcases hop with q|q <;> rw[q] at e <;> simp[Spn.ex] at e <;> exact e
 rw[if_neg hop]
 clear hop
 by_cases hop:m.op=32
 ·rw[if_pos hop]
  have ha:ar m.op=1:=by rw[hop];decide
  have ia:=hin m.a (by rw[xP ha];simp)
  rw[bO (by omega),av1 ha,hop] at hx
  obtain⟨w1,e⟩:=mQ hx
  intro p hp hs
  simp only[lMm,lNm,or_false] at hp
  subst hp
  refine⟨ia,?_⟩
  have hk:m.k=1:=by simpa using hs
  rw[hk] at e
  simp[Spn.ex] at e
  exact e
 rw[if_neg hop]
 clear hop
 by_cases hop:m.op=5
 ·rw[if_pos hop]
  have ha:ar m.op=1:=by rw[hop];decide
  have ia:=hin m.a (by rw[xP ha];simp)
  rw[bO (by omega),av1 ha,hop] at hx
  obtain⟨w1,e⟩:=mQ hx
  intro p hp hs
  simp only[lMm,lNm,or_false] at hp
  subst hp
  obtain⟨i2,e2⟩:=h.neg ia (by simpa using hs)
  refine⟨i2,?_⟩
  rw[e2] at e
  simp[Spn.ex] at e
  exact e
 rw[if_neg hop]
 clear hop
 by_cases hop:m.op=6
 ·rw[if_pos hop]
  have ha:ar m.op=1:=by rw[hop];decide
  have ia:=hin m.a (by rw[xP ha];simp)
  rw[bO (by omega),av1 ha,hop] at hx
  obtain⟨w1,e⟩:=mQ hx
  intro p hp hs
  simp only[lMm,lNm,or_false] at hp
  subst hp
  have e2:=h.abs ia (by simpa using hs)
  refine⟨ia,?_⟩
  have e3:=congrArg Prod.fst e
  simp only[Spn.ex] at e3
  change max (gv V m.a) (-gv V m.a)=x at e3
  show gv V m.a=x
  omega
 rw[if_neg hop]
 clear hop
 by_cases hop:m.op=28
 ·rw[if_pos hop]
  exact absurd hop h28
 rw[if_neg hop]
 clear hop
 by_cases hop:m.op=27
 ·rw[if_pos hop]
  have ha:ar m.op=3:=by rw[hop];decide
  have ia:=hin m.a (by rw[oV ha];simp)
  have ib:=hin m.b (by rw[oV ha];simp)
  rw[bO (by omega),av3 ha,hop] at hx
  obtain⟨w1,w2,w3,e⟩:=aAh hx
  have e3:max (min (gv V m.a) (gv V m.b)) (min (max (gv V m.a) (gv V m.b)) (gv V m.c))=x:=by
   have:=congrArg Prod.fst e
   simpa [Spn.ex] using this
  intro p hp hs
  simp only[lMm,lNm,or_false] at hp
  rcases hp with rfl|rfl
  ·refine⟨ia,?_⟩
   show gv V m.a=x
   simp only[Bool.or_eq_true,beq_iff_eq] at hs
   rcases hs with hs|hs
   ·rw[<-hs] at e3;omega
   ·rw[<-hs] at e3;omega
  ·refine⟨ib,?_⟩
   show gv V m.b=x
   simp only[beq_iff_eq] at hs
   rw[<-hs] at e3;omega
 rw[if_neg hop]
 clear hop
 by_cases hop:m.op=26
 ·rw[if_pos hop]
  have ha:ar m.op=3:=by rw[hop];decide
  have ib:=hin m.b (by rw[oV ha];simp)
  rw[bO (by omega),av3 ha,hop] at hx
  obtain⟨w1,w2,w3,e⟩:=aAh hx
  have e3:min (gv V m.c) (max (gv V m.a) (gv V m.b))=x:=by
   have:=congrArg Prod.fst e
   simpa [Spn.ex] using this
  intro p hp hs
  simp only[lMm,lNm,or_false] at hp
  subst hp
  refine⟨ib,?_⟩
  show gv V m.b=x
  simp only[beq_iff_eq] at hs
  rw[<-hs] at e3;omega
 ·rw[if_neg hop]
  intro p hp
  cases hp
theorem aNz (own:Int):∀ L:List (Bool × Int),fsZ own L=own\/∃ p ∈ L,p.1=true/\fsZ own L=p.2
 | []=>.inl rfl
 | p::L=>by
  unfold fsZ
  split
  ·rename_i hp
   exact .inr ⟨p,by simp,hp,rfl⟩
  ·rcases aNz own L with h|⟨q,h1,h2,h3⟩
   ·exact .inl h
   ·exact .inr ⟨q,by simp[h1],h2,h3⟩
theorem aW5 (h:Rv f d v M V)(ho:bE m M.length=true)(hx:cZ f d v V m=(x,0))(own:Int) :
  fsZ own (mO M m)=own\/(eD (fsZ own (mO M m)) M.length/\gv V (fsZ own (mO M m))=x):=by
 by_cases hop:m.op=28
 ·have hin:=fun r=>nK ho (r:=r)
  have ha:ar m.op=3:=by rw[hop];decide
  have ia:=hin m.a (by rw[oV ha];simp)
  have ib:=hin m.b (by rw[oV ha];simp)
  have ic:=hin m.c (by rw[oV ha];simp)
  rw[bO (by omega),av3 ha,hop] at hx
  obtain⟨w1,w2,w3,e⟩:=aAh hx
  have e3:(if gv V m.a=0 then gv V m.c else gv V m.b)=x:=by
   have:=congrArg Prod.fst e
   simpa [Spn.ex] using this
  have el:mO M m=[(isN M m.a 0,m.c),((rg M m.a).op==1,m.b),(m.b==m.c,m.b)]:=by unfold mO;rw[hop];simp
  rw[el]
  simp only[fsZ]
  by_cases h1:isN M m.a 0=true
  ·rw[if_pos h1]
   rw[h.isN ia h1,if_pos rfl] at e3
   exact .inr ⟨ic,e3⟩
  rw[if_neg h1]
  by_cases h2:((rg M m.a).op==1)=true
  ·rw[if_pos h2]
   refine .inr ⟨ib,?_⟩
   have hn:=h.num ia (by simpa using h2)
   have h0:gv V m.a≠0:=by
    intro h0
    apply h1
    simp only[Fld.isN,bAt]
    refine⟨h2,?_⟩
    rw[hn] at h0
    simpa using h0
   rw[if_neg h0] at e3
   exact e3
  rw[if_neg h2]
  by_cases h3:(m.b==m.c)=true
  ·rw[if_pos h3]
   refine .inr ⟨ib,?_⟩
   have hbc:m.b=m.c:=by simpa using h3
   rw[<-hbc] at e3
   split at e3 <;> exact e3
  ·rw[if_neg h3]
   exact .inl rfl
 ·rcases aNz own (mO M m) with e|⟨p,h1,h2,h3⟩
  ·exact .inl e
  ·right
   rw[h3]
   exact aXk hop h ho hx p h1 h2
structure St (V:List Int)(T:List Int)(k:Nat):Prop where
 len:T.length=k
 vl:V.length=k
 at':∀ i,i < k->0<=T.getD i 0/\(T.getD i 0).toNat<=i/\gv V (T.getD i 0)=V.getD i 0
theorem St.ex (h:St V T k)(hr:eD r k):eD (dP T r) k/\gv V (dP T r)=gv V r:=by
 obtain⟨h1,h2,h3⟩:=h.at' r.toNat hr.2
 have e:dP T r=T.getD r.toNat 0:=by
  unfold dP
  rw[if_neg]
  have:=h.len
  have:=hr.1
  have:=hr.2
  omega
 rw[e]
 exact⟨⟨h1,by have:=hr.2;omega⟩,h3⟩
theorem kH {u:Bool}{i:Nat}:tH r u i=true↔(u=true->eD r i)/\(u=false->r=0):=by
 unfold tH eD
 cases u
 ·simp
 ·simp only[if_true,Spn.aK]
  constructor
  ·intro h;exact⟨fun _=>by omega,fun h=>by cases h⟩
  ·intro h;have:=h.1 trivial;omega
theorem aGb (h:St V T k)(ho:bE n k=true):bE (dH n T) k=true:=by
 have hc:=Cde.qE ho
 have ha:=Cde.aBn ho
 simp only[bE,tJ,bAt,kH] at ho
 obtain⟨⟨-,⟨⟨a1,a2⟩,b1,b2⟩,c1,c2⟩,-⟩:=ho
 simp only[dEt,decide_eq_false_iff_not] at a1 a2 b1 b2 c1 c2
 have hc':nE (dH n T)=true:=hc
 simp only[bE,tJ,bAt,kH,hc',dEt,decide_eq_false_iff_not]
 refine⟨⟨ha,⟨⟨fun u=>?_,fun u=>?_⟩,fun u=>?_,fun u=>?_⟩,fun u=>?_,fun u=>?_⟩,trivial⟩
 ·show eD (if 0 < ar n.op then dP T n.a else n.a) k
  rw[if_pos (show 0 < ar n.op from u)];exact(h.ex (a1 u)).1
 ·show (if 0 < ar n.op then dP T n.a else n.a)=0
  rw[if_neg (show ¬0 < ar n.op from u)];exact a2 u
 ·show eD (if 1 < ar n.op then dP T n.b else n.b) k
  rw[if_pos (show 1 < ar n.op from u)];exact(h.ex (b1 u)).1
 ·show (if 1 < ar n.op then dP T n.b else n.b)=0
  rw[if_neg (show ¬1 < ar n.op from u)];exact b2 u
 ·show eD (if 2 < ar n.op then dP T n.c else n.c) k
  rw[if_pos (show 2 < ar n.op from u)];exact(h.ex (c1 u)).1
 ·show (if 2 < ar n.op then dP T n.c else n.c)=0
  rw[if_neg (show ¬2 < ar n.op from u)];exact c2 u
theorem aZg (h:St V T k)(ho:bE n k=true):gW V (dH n T)=gW V n:=by
 have hin:=fun r=>nK ho (r:=r)
 have ha:=Cde.aBn ho
 have h3:=Spn.xS n.op
 rcases(show ar n.op=0\/ar n.op=1\/ar n.op=2\/ar n.op=3 by unfold ar;omega) with e|e|e|e
 ·have e1:eF n=[]:=by unfold eF dC;rw[show Spn.ar n.op=0 from e];rfl
  have e2:eF (dH n T)=[]:=by unfold eF dC;rw[show Spn.ar (dH n T).op=0 from e];rfl
  unfold gW;rw[e1,e2]
 ·rw[av1 e,av1 (n:=dH n T) e]
  have ea:(dH n T).a=dP T n.a:=by show (if 0 < ar n.op then dP T n.a else n.a)=_;rw[if_pos (by omega)]
  rw[ea,(h.ex (hin n.a (by rw[xP e];simp))).2]
 ·rw[uV e,uV (n:=dH n T) e]
  have ea:(dH n T).a=dP T n.a:=by show (if 0 < ar n.op then dP T n.a else n.a)=_;rw[if_pos (by omega)]
  have eb:(dH n T).b=dP T n.b:=by show (if 1 < ar n.op then dP T n.b else n.b)=_;rw[if_pos (by omega)]
  rw[ea,eb,(h.ex (hin n.a (by rw[jI e];simp))).2,(h.ex (hin n.b (by rw[jI e];simp))).2]
 ·rw[av3 e,av3 (n:=dH n T) e]
  have ea:(dH n T).a=dP T n.a:=by show (if 0 < ar n.op then dP T n.a else n.a)=_;rw[if_pos (by omega)]
  have eb:(dH n T).b=dP T n.b:=by show (if 1 < ar n.op then dP T n.b else n.b)=_;rw[if_pos (by omega)]
  have ec:(dH n T).c=dP T n.c:=by show (if 2 < ar n.op then dP T n.c else n.c)=_;rw[if_pos (by omega)]
  rw[ea,eb,ec,(h.ex (hin n.a (by rw[oV e];simp))).2,(h.ex (hin n.b (by rw[oV e];simp))).2,(h.ex (hin n.c (by rw[oV e];simp))).2]
theorem aQ7 (h:St V T k)(ho:bE n k=true):cZ f d v V (dH n T)=cZ f d v V n:=by
 unfold cZ
 rw[aZg h ho]
 rfl
theorem aUu (h:Rv f d v M V)(ho:bE m M.length=true)(ha:alN M m=true):kaL M m=gW V m:=by
 unfold kaL gW
 apply List.map_congr_left
 intro r hr
 simp only[alN,lAe] at ha
 exact(h.num (nK ho hr) (by simpa using ha r hr)).symm
theorem aYz (h:Rv f d v M V)(ho:bE m M.length=true)(hx:cZ f d v V m=(x,0))(h1:1<=ar m.op)(ha:alN M m=true):rkZ M m=(x,true)/\vl m.op m.k m.s (kaL M m)=(x,0):=by
 rw[bO h1] at hx
 have e:vl m.op m.k m.s (kaL M m)=(x,0):=by rw[aUu h ho ha];exact hx
 refine⟨?_,e⟩
 rw[rkZ,if_pos ha,e]
 rfl
theorem aUx (h1:¬1<=ar m.op):(rkZ M m).2=false:=by
 unfold rkZ
 split
 ·have:vl m.op m.k m.s (kaL M m)=(0,1):=by
   unfold vl Spn.bK
   rw[if_neg]
   simp only[Spn.fT,bAt,dEt]
   intro h
   exact h1 h.1.1.1
  rw[this];rfl
 ·rfl
theorem aWu (hx:cZ f d v V m=(x,0))(hb:(bnZ f d m).2=true):(bnZ f d m).1=x:=by
 unfold bnZ at *
 split at hb
 ·rename_i hop
  rw[if_pos hop]
  rw[cZ,if_neg (by omega),if_pos hop] at hx
  have e:=congrArg Prod.fst hx
  simp only[inpV] at e
  split at hb
  ·rename_i hk;rw[if_pos hk];rw[hk] at e;simpa using e
  ·rename_i hk
   rw[if_neg hk]
   split at hb
   ·rename_i hk;rw[if_pos hk];rw[hk] at e;simpa using e
   ·rename_i hk
    rw[if_neg hk]
    split at hb
    ·rename_i hk;rw[if_pos hk];rw[hk] at e;simpa using e
    ·cases hb
 ·cases hb
theorem aXe (h:Rv f d v M V)(ho:bE m M.length=true)(hx:cZ f d v V m=(x,0))(hk:(knZ f d M m).2=true):(knZ f d M m).1=x:=by
 unfold knZ at *
 split at hk
 ·rename_i hb
  rw[if_pos hb]
  exact aWu hx hb
 ·rename_i hb
  rw[if_neg hb]
  split at hk
  ·rename_i hr
   rw[if_pos hr]
   by_cases h1:1<=ar m.op
   ·by_cases ha:alN M m=true
    ·rw[(aYz h ho hx h1 ha).1]
    ·rw[rkZ,if_neg ha] at hr;cases hr
   ·rw[aUx h1] at hr;cases hr
  ·rename_i hr
   rw[if_neg hr]
   exact aZd h ho hx hk
theorem bBd (hx:w32 x)(i:Nat):bE (nuI x) i=true:=by
 have e:Spn.wd x=true:=Spn.bY.2 hx
 simp[bE,nuI,tJ,tH,nE,Spn.ar,e]
theorem bBe (f d:Int)(v:Wd)(V:List Int)(x:Int):cZ f d v V (nuI x)=(x,0):=by simp[cZ,nuI]
theorem aT5 (h:Rv f d v M V)(hT:St V T M.length)(ho:bE n M.length=true)(hx:cZ f d v V n=(x,0))(hw:w32 x) :
  bE (nwI f d M (dH n T)) M.length=true/\cZ f d v V (nwI f d M (dH n T))=(x,0) /\
  (nwT f d M (dH n T) M.length=M.length\/(eD (nwT f d M (dH n T) M.length) M.length/\gv V (nwT f d M (dH n T) M.length)=x)):=by
 have ho':=aGb hT ho
 have hx':cZ f d v V (dH n T)=(x,0):=by rw[aQ7 hT ho];exact hx
 unfold nwI nwT
 by_cases hk:(knZ f d M (dH n T)).2=true
 ·rw[if_pos hk,if_pos hk,aXe h ho' hx' hk]
  exact⟨bBd hw _,bBe ..,.inl rfl⟩
 ·rw[if_neg hk,if_neg hk]
  exact⟨ho',hx',aW5 h ho' hx' _⟩
theorem St.snoc (h:St V T k){t:Int}(ht:t=k\/(eD t k/\gv V t=x)):St (V++[x]) (T++[t]) (k+1):=by
 have hl:=h.len
 have hv:=h.vl
 refine⟨by simp[hl],by simp[hv],fun i hi=>?_⟩
 by_cases e:i < k
 ·obtain⟨h1,h2,h3⟩:=h.at' i e
  rw[Cde.dJ (by omega)]
  refine⟨h1,h2,?_⟩
  rw[gv,Cde.dJ (by omega),Cde.dJ (by omega)]
  exact h3
 ·obtain rfl:i=k:=by omega
  rw[show (T++[t]).getD i 0=t by rw[<-hl];exact bR T t,show (V++[x]).getD i 0=x by rw[<-hv];exact bR V x]
  rcases ht with rfl|⟨h1,h2⟩
  ·refine⟨by omega,by omega,?_⟩
   rw[gv,iTn,<-hv];exact bR V x
  ·refine⟨h1.1,by have:=h1.2;omega,?_⟩
   rw[gv,Cde.dJ (by rw[hv];exact h1.2)]
   exact h2
end
section
open Go.RowKit Go.IntWalk Knd
open Cde (In i0 ia kd cd Ins sI aH aJ)
open YticnbcfmbhjbgaaGreatDoor (aB)
variable {a:Option Addr} {cap n:Nat} {T:List Int} {W:World}
theorem aSw (r:Int)(hT:Ints W a n cap T) :
  Calls Tryz.prog 370 #[.i r,.slice a n cap] W fun e W'=>e=.returned (.i (dP T r))/\W'=W:=by
 have hl:=hT.len
 have hs:n<=9223372036854775807:=by have:=hT.le;have:=hT.max;unfold maxLen at this;omega
 by_cases h0:r < 0
 ·rw[show dP T r=r from if_pos (.inl h0)]
  go_enter Tryz.func370,Tryz.ntmps370
  go_wp2_with fail
  go_ret
  exact⟨rfl,rfl⟩
 by_cases h1:(T.length:Int)<=r
 ·rw[show dP T r=r from if_pos (.inr h1)]
  have q0:decide (r < 0)=false:=by simpa using h0
  have q1:decide ((n:Int)<=r)=true:=by simp;omega
  go_enter Tryz.func370,Tryz.ntmps370
  go_wp2_with fail
  go_ret
  exact⟨rfl,rfl⟩
 ·rw[show dP T r=T.getD r.toNat 0 from if_neg (by omega)]
  obtain⟨k,rfl⟩:∃ k:Nat,r=k:=⟨r.toNat,by omega⟩
  have hk:k < n:=by omega
  obtain⟨b,off,rfl,-,hc⟩:=hT.at (by omega)
  have c0:=hc k hk
  have q0:decide ((k:Int) < 0)=false:=by simp
  have q1:decide ((n:Int)<=(k:Int))=false:=by simp;omega
  have q2:decide (n<=k)=false:=by simp;omega
  have i0':(0:Int)<=k:=by omega
  have i1':(k:Int) < n:=by omega
  rw[iTn]
  generalize T.getD k 0=z at *
  clear hc hl h0 h1
  go_enter Tryz.func370,Tryz.ntmps370
  go_wp2_with fail
  go_ret
  exact⟨rfl,rfl⟩
theorem aEt (k:Int){b off j:Nat}{m:In}(hj:j < n)(c0:W.cell? ⟨b,off+j*6,none⟩=some (.i m.op))(c4:W.cell? ⟨b,off+j*6+4,none⟩=some (.i m.k))(hs:n<=9223372036854775807) :
  Calls Tryz.prog 375 #[.slice (some ⟨b,off,none⟩) n cap,.i (j:Int),.i k] W fun e W'=>e=.returned (.bool (m.op==1&&m.k==k))/\W'=W:=by
 have i0':(0:Int)<=j:=by omega
 have i1':(j:Int) < n:=by omega
 by_cases h1:m.op=1
 ·have q1:(m.op==1)=true:=by simpa using h1
  rw[q1]
  clear h1
  go_enter Tryz.func375,Tryz.ntmps375
  go_wp2_with fail
  go_ret
  exact⟨by simp,rfl⟩
 ·have q1:(m.op==1)=false:=by simpa using h1
  rw[q1]
  clear h1
  go_enter Tryz.func375,Tryz.ntmps375
  go_wp2_with fail
  go_ret
  exact⟨rfl,rfl⟩
theorem aIx (r k:Int){M:List In}(hM:Ins W a n cap M)(hr:eD r n) :
  Calls Tryz.prog 375 #[.slice a n cap,.i r,.i k] W fun e W'=>e=.returned (.bool (isN M r k))/\W'=W:=by
 have hs:=hM.short
 obtain⟨j,rfl⟩:∃ k:Nat,r=k:=⟨r.toNat,by have:=hr.1;omega⟩
 have hj:j < n:=by have:=hr.2;omega
 obtain⟨b,off,rfl,-,hc⟩:=hM.at (by omega)
 obtain⟨c0,-,-,-,c4,-⟩:=hc j hj
 unfold isN rg
 rw[iTn]
 exact aEt k hj c0 c4 hs
abbrev lnA (L:List (Bool × Int)):Array Value:=(L.flatMap fun p=>[Value.bool p.1,.i p.2]).toArray
theorem aI9:∀(L:List (Bool × Int)) (i:Nat),i < L.length->(lnA L)[i*2]?=some (.bool (L.getD i (false,0)).1)/\(lnA L)[i*2+1]?=some (.i (L.getD i (false,0)).2)
 | [],i,h=>by simp at h
 | p::L,0,h=>by simp[lnA]
 | p::L,i+1,h=>by
  have:=aI9 L i (by simpa using h)
  simp only[lnA,List.flatMap_cons,List.getElem?_toArray] at this ⊢
  rw[gAr (by simp;omega),gAr (by simp;omega)]
  simp only[lLc,lLn]
  rw[show (i+1)*2-(0+1+1)=i*2 by omega,show (i+1)*2+1-(0+1+1)=i*2+1 by omega]
  simpa using this
theorem aS1 (own:Int)(L:List (Bool × Int)){k:Nat}(h:k < L.length):fsZ own (L.drop k)=if (L.getD k (false,0)).1=true then(L.getD k (false,0)).2 else fsZ own (L.drop (k+1)):=by
 rw[List.drop_eq_getElem_cons h,fsZ,gdE,gEg h]
 rfl
theorem bT (own:Int){g:Nat}{L:List (Bool × Int)}(hL:aB W g 385 (lnA L))(hn:L.length=n)(h3:n<=3) :
  Calls Tryz.prog 374 #[.i own,.slice (some ⟨g,0,none⟩) n n] W fun e W'=>e=.returned (.i (fsZ own L))/\Below W.heap.size W W':=by
 have HL:=aA hL
 have HN:=aA hn
 have HG:=aA fun i h=>aI9 L i h
 have HD:=aA fun k h=>aS1 own L (k:=k) h
 have H0:Hid (fsZ own (L.drop 0)=fsZ own L):=aA rfl
 generalize fsZ own L=z at *
 clear hL hn
 go_enter Tryz.func374,Tryz.ntmps374
 go_wp2_with fail
 go_loopw [9] (fun i wr=>∃ k:Nat,k<=n/\i=.i k/\Hid (fsZ own (L.drop k)=z)/\Hid (Below W.heap.size W wr)) (fun i _=>n-(intOf i).toNat)
 case atStart=>exact⟨0,nZl _,rfl,aA H0.o,aA (Below.refl _ _)⟩
 case round =>
  obtain⟨k,hk,rfl,HZ,HB⟩:=hrel
  rename World=>V
  clear H0
  by_cases hlt:k < n
  ·obtain⟨g0,g1⟩:=HG.o k (by rw[HN.o];exact hlt)
   have hc:=HL.o.below HB.o
   have c0:=hc.cell _ g0
   have c1:=hc.cell _ g1
   have hD:=HD.o k (by rw[HN.o];exact hlt)
   rw[HZ.o] at hD
   generalize L.getD k (false,0)=p at *
   obtain⟨pb,pr⟩:=p
   have HD2:=aA hD
   have i0':(0:Int)<=k:=by omega
   have i1':(k:Int) < n:=by omega
   have HB2:=aA (bel HB.o (aD V (.cells #[.bool pb,.i pr] 385)))
   clear hc hD g0 g1
   cases pb
   ·go_wp2_with fail
    go_roundw
    case rel=>exact⟨k+1,by omega,by go_num,aA (by have:=HD2.o;simpa using this.symm),HB2⟩
    case measure=>simp[intOf];omega
   ·go_wp2_with fail
    go_ret
    exact⟨aO (by have:=HD2.o;simpa using this.symm),HB2.o⟩
  ·obtain rfl:k=n:=by omega
   have hZ:=HZ.o
   rw[List.drop_of_length_le (by rw[HN.o];exact nLr _)] at hZ
   have HZ2:Hid (own=z):=aA hZ
   clear hZ
   go_wp2_with fail
   go_ret
   exact⟨aO HZ2.o,HB.o⟩
theorem aG2 (f d:Int)(n:In)(W:World) :
  Calls Tryz.prog 371 #[.agg (kd f d),.agg (ia n)] W fun e W'=>e=.returned (.tuple #[.i (bnZ f d n).1,.bool (bnZ f d n).2])/\Below W.heap.size W W':=by
 have HL:=aA fun W=>Knd.mH f d W
 have HH:=aA fun W=>Knd.jW f d W
 have HO:=aA fun W=>Knd.kZ f d W
 have HB:=aA (bel (aD W (.cells (kd f d) 23)) (aD (W.alloc (.cells (kd f d) 23)) (.cells (ia n) 132)))
 obtain⟨op,a,b,c,k,s⟩:=n
 unfold bnZ
 dsimp only
 by_cases h2:op=2
 ·subst h2
  rw[if_pos rfl]
  by_cases h3:k=3
  ·subst h3
   rw[if_pos rfl]
   go_enter Tryz.func371,Tryz.ntmps371
   go_wp2_with fail
   refine(HL.o _).mono ?_
   rintro e V1 ⟨rfl,hb⟩
   go_wp2_with fail
   exact bPr (v:=.tuple #[.i (fG f d),.bool true]) (by simp[results,Tryz.results371,go_sem]) rfl ⟨rfl,bel HB.o hb⟩
  rw[if_neg h3]
  by_cases h4:k=4
  ·subst h4
   rw[if_pos rfl]
   clear h3
   go_enter Tryz.func371,Tryz.ntmps371
   go_wp2_with fail
   refine(HH.o _).mono ?_
   rintro e V1 ⟨rfl,hb⟩
   go_wp2_with fail
   exact bPr (v:=.tuple #[.i (cK f d),.bool true]) (by simp[results,Tryz.results371,go_sem]) rfl ⟨rfl,bel HB.o hb⟩
  rw[if_neg h4]
  by_cases h5:k=5
  ·subst h5
   rw[if_pos rfl]
   clear h3 h4
   go_enter Tryz.func371,Tryz.ntmps371
   go_wp2_with fail
   refine(HO.o _).mono ?_
   rintro e V1 ⟨rfl,hb⟩
   go_wp2_with fail
   exact bPr (v:=.tuple #[.i (bL f d),.bool true]) (by simp[results,Tryz.results371,go_sem]) rfl ⟨rfl,bel HB.o hb⟩
  rw[if_neg h5]
  have q3:(k==3)=false:=by simpa using h3
  have q4:(k==4)=false:=by simpa using h4
  have q5:(k==5)=false:=by simpa using h5
  clear h3 h4 h5
  go_enter Tryz.func371,Tryz.ntmps371
  go_wp2_with fail
  exact bPr (v:=.tuple #[.i 0,.bool false]) (by simp[results,Tryz.results371,go_sem]) rfl ⟨rfl,HB.o⟩
 ·rw[if_neg h2]
  have q2:(op != 2)=true:=by simpa using h2
  clear h2
  go_enter Tryz.func371,Tryz.ntmps371
  go_wp2_with fail
  exact bPr (v:=.tuple #[.i 0,.bool false]) (by simp[results,Tryz.results371,go_sem]) rfl ⟨rfl,HB.o⟩
theorem bBz {n:In}(h:¬0 < ar n.op):dH n T=n:=by
 unfold dH
 rw[if_neg h,if_neg (by omega),if_neg (by omega)]
theorem bC6 {n:In}(h:ar n.op=1):dH n T=⟨n.op,dP T n.a,n.b,n.c,n.k,n.s⟩:=by
 unfold dH
 rw[h];rfl
theorem bC7 {n:In}(h:ar n.op=2):dH n T=⟨n.op,dP T n.a,dP T n.b,n.c,n.k,n.s⟩:=by
 unfold dH
 rw[h];rfl
theorem bC8 {n:In}(h:ar n.op=3):dH n T=⟨n.op,dP T n.a,dP T n.b,dP T n.c,n.k,n.s⟩:=by
 unfold dH
 rw[h];rfl
theorem gP (n:In){m:Nat}(hT:Ints W a m cap T) :
  Calls Tryz.prog 354 #[.agg (ia n),.slice a m cap] W fun e W'=>e=.returned (.agg (ia (dH n T)))/\Below W.heap.size W W':=by
 have HA:=aA fun W=>Spn.bQ n.op W
 have hb2:=bel (aD W (.cells (ia n) 132)) (aD (W.alloc (.cells (ia n) 132)) (.cells (ia i0) 132))
 have HE:=aA fun V r (h:Below W.heap.size W V)=>aSw r (hT.later h)
 have HB0:=aA hb2
 rcases Cde.jU n.op with h|h|h|h|h
 rw[bBz (by rw[ar,h];decide)]
 rotate_left
 rw[bBz (by rw[ar,h];decide)]
 rotate_left
 rw[bC6 h]
 rotate_left
 rw[bC7 h]
 rotate_left
 rw[bC8 h]
 rotate_left
 all_goals
  rw[h] at HA
  clear h
  go_enter Tryz.func354,Tryz.ntmps354
  go_wp2_with (first
   | (go_at_call 129;refine(HA.o _).mono ?_;rintro e w' ⟨rfl,rfl⟩)
   | (go_at_call 370;refine(HE.o _ _ (by first | exact bel (aD W _) (aD _ _) | exact bel ((aD W _).setCell (by simp) _) (aD _ _) | exact bel (((aD W _).setCell (by simp) _).setCell (by simp) _) (aD _ _))).mono ?_;rintro e w' ⟨rfl,rfl⟩))
  exact bPr (v:=.agg (ia _)) (by simp[results,Tryz.results354,go_sem]) rfl ⟨rfl,by first|exact bel (aD W _) (aD _ _)|exact bel ((aD W _).setCell (by simp) _) (aD _ _)|exact bel (((aD W _).setCell (by simp) _).setCell (by simp) _) (aD _ _)|exact bel ((((aD W _).setCell (by simp) _).setCell (by simp) _).setCell (by simp) _) (aD _ _)⟩
end
open Go.RowKit Go.IntWalk Knd
open Cde (In i0 ia kd cd Ins sI aH aJ bE eF dC gW arM abc mV zA gZ aJq spn aRv)
open YticnbcfmbhjbgaaGreatDoor (aB)
variable {M:List In} {m:In}
theorem aWf (M:List In)(q:Nat):(M.map In.k).getD q 0=(M.getD q i0).k:=by
 rw[gdE,gEm,gdE]
 cases M[q]? <;> rfl
theorem bAx (M:List In)(m:In):kaL M m=gW (M.map In.k) m:=by
 unfold kaL gW
 apply List.map_congr_left
 intro r hr
 rw[aWf]
theorem aMs (M:List In)(m:In):alN M m=true↔∀ j,j < dC m->(rg M (mV m j)).op=1:=by
 unfold alN
 rw[lAe]
 constructor
 ·intro h j hj
  have:=h ((eF m).getD j 0) (Cde.pX 0 (by rw[Cde.gN];exact hj))
  rw[Cde.sH m j hj] at this
  simpa using this
 ·intro h r hr
  obtain⟨j,hj,rfl⟩:=List.getElem_of_mem hr
  rw[Cde.gN] at hj
  have:=h j hj
  rw[<-Cde.sH m j hj,gdE,gEg (by rw[Cde.gN];exact hj)] at this
  simpa using this
theorem bBs {j:Nat}(hj:j < dC m)(h:(rg M (mV m j)).op≠1):rkZ M m=(0,false):=by
 unfold rkZ
 rw[if_neg]
 rw[aMs]
 intro h2
 exact h (h2 j hj)
theorem aY2 (h:∀ j,j < dC m->(rg M (mV m j)).op=1):rkZ M m=((vl m.op m.k m.s (gW (M.map In.k) m)).1,(vl m.op m.k m.s (gW (M.map In.k) m)).2==0):=by
 unfold rkZ
 rw[if_pos ((aMs M m).2 h),bAx]
theorem aS0 (n:In){va:Option Addr}{vn vc:Nat}{W:World}(hM:Ins W va vn vc M)(ho:bE n vn=true) :
  Calls Tryz.prog 372 #[.slice va vn vc,.agg (ia n)] W fun e W'=>e=.returned (.tuple #[.i (rkZ M n).1,.bool (rkZ M n).2])/\Below W.heap.size W W':=by
 have HA:=aA fun w=>Cde.xW n w
 have HR:=aA fun j hj=>Cde.qF ho (j:=j) hj
 have HS:=aA fun k (h:k < dC n)=>Cde.aAx (M.map In.k) n h
 have HU:=aA fun k (h:k < dC n)=>Cde.aMw (M.map In.k) n h
 have HG0:=aA fun k (h:k < dC n)=>Cde.aR6 (M.map In.k) n h
 have HLn:=aA fun k (h:k<=dC n)=>Cde.aIl (M.map In.k) n h
 have HD:=aA (Cde.aMv (M.map In.k) n)
 have HAl:=aA (Cde.fU (M.map In.k) n)
 have H00:Hid (arM (M.map In.k) n 0=abc n):=aA rfl
 have HNo:=aA fun j=>bBs (M:=M) (m:=n) (j:=j)
 have HYes:=aA (aY2 (M:=M) (m:=n))
 have h3':=Cde.kX n
 have hs:=hM.short
 have HMk:=aA fun q=>aWf M q
 have HB0:=aA (aD W (.cells (ia n) 132))
 have HN0:=aA (aB.new W 132 (ia n))
 have HVW:=aA hM
 generalize arM (M.map In.k) n=Q at *
 generalize dC n=m at *
 obtain⟨⟨X,x2⟩,hX⟩:∃ X,rkZ M n=X:=⟨_,rfl⟩
 rw[hX] at HNo HYes ⊢
 clear ho hM hX
 go_enter Tryz.func372,Tryz.ntmps372
 go_wp2_with fail
 refine(HA.o _).mono ?_
 rintro e V1 ⟨g,rfl,hg,hG,hb⟩
 have HN1:=aA (HN0.o.below hb)
 have HB1:=aA (bel HB0.o hb)
 have HG1:=aA hG
 have hg2:W.heap.size+1<=g:=by simpa using hg
 clear hG hb HN0 HB0 HA hg
 go_wp2_with fail
 go_loopw [15] (fun j wr=>∃ k:Nat,k<=m/\j=.i k/\Hid (∀ i,i < k->(rg M (mV n i)).op=1)/\Hid (aB wr g 3 (zA (Q k)))/\Hid (aB wr W.heap.size 132 (ia n))/\Hid (Below W.heap.size W wr)) (fun j _=>m-(intOf j).toNat)
 case atStart=>exact⟨0,nZl _,rfl,aA (fun i hi=>absurd hi (Nat.not_lt_zero _)),aA (by rw[H00.o];exact HG1.o),HN1,HB1⟩
 case round =>
  obtain⟨k,hk,rfl,HF,HG,HN,HB⟩:=hrel
  rename World=>V2
  clear HG1 HN1 HB1
  by_cases hlt:k < m
  ·obtain⟨p0,p1⟩:=HR.o k hlt
   have hl3:=HLn.o k hk
   have c0:=HG.o.cell k (gZ _ k (by rw[hl3];omega))
   rw[HG0.o k hlt] at c0
   have HX:=HG.o
   rw[HS.o k hlt] at HX
   have HX2:=aA fun x=>aJq (k:=k) HX (by rw[lLt,HAl.o];omega) x
   have HU2:=aA (HU.o k hlt)
   have y0:=HG.o.frozen k
   have HF2:=aA fun(h:(rg M (mV n k)).op=1) (i:Nat) (hi:i < k+1)=>show (rg M (mV n i)).op=1 from by
    by_cases e:i < k
    ·exact HF.o i e
    ·obtain rfl:i=k:=by omega
     exact h
   have HNo2:=aA (HNo.o k hlt)
   obtain⟨q,hq⟩:∃ q:Nat,mV n k=(q:Int):=⟨(mV n k).toNat,by omega⟩
   rw[hq] at c0 p1 HU2
   unfold rg at HF2 HNo2
   rw[hq] at HF2 HNo2
   simp only[iTn] at p1 HU2 HF2 HNo2
   rw[HMk.o q] at HU2
   obtain⟨b,off,rfl,-,hat⟩:=(HVW.o.later HB.o).at (by omega)
   obtain⟨c1,-,-,-,c5,-⟩:=hat q (by omega)
   generalize M.getD q i0=z at *
   have HX3:=aA (HX2.o z.k)
   rw[HU2.o] at HX3
   have HN3:=aA (HN.o.other (p:=⟨g,k,none⟩) (by simp;omega) (.i z.k))
   have HB4:=aA (HB.o.setCell (p:=⟨g,k,none⟩) (by simp;omega) (.i z.k))
   have i0':(0:Int)<=q:=by omega
   have i1':(q:Int) < vn:=by omega
   have j0:(0:Int)<=k:=by omega
   have j1:(k:Int) < m:=by omega
   clear HX HX2 HU2 hat hq p0 p1 hl3 HF
   by_cases hop:z.op=1
   ·have q1:(z.op != 1)=false:=by simpa using hop
    have HF3:=aA (HF2.o hop)
    clear HF2 hop HNo2
    go_wp2_with fail
    go_roundw
    case rel=>exact⟨k+1,by omega,by go_num,aA HF3.o,HX3,HN3,HB4⟩
    case measure=>simp[intOf];omega
   ·have q1:(z.op != 1)=true:=by simpa using hop
    have HZ:=aA (HNo2.o hop)
    clear HF2 hop HNo2
    go_wp2_with fail
    have hz:=HZ.o
    cases hz
    exact bPr (v:=.tuple #[.i 0,.bool false]) (by simp[results,Tryz.results372,go_sem]) rfl ⟨rfl,HB.o⟩
  ·obtain rfl:k=m:=by omega
   have hI:=HG.o
   rw[HD.o] at hI
   have hI2:=aRv hI (by rw[<-HD.o];exact HLn.o k (nLr _))
   rw[HAl.o] at hI2
   have HVa:=aA (Spn.kU n.op n.k n.s _ _ _ _ _ (spn hI2))
   have HY:=aA (HYes.o HF.o)
   obtain⟨e0,-,-,-,e4,e5⟩:=aH HN.o
   clear hI hI2 HYes HNo
   unfold vl at HY
   generalize Spn.bK n.op n.k n.s (gW (M.map In.k) n)=Y at *
   go_wp2_with fail
   refine HVa.o.mono ?_
   rintro e V3 ⟨rfl,hb⟩
   have HB3:=aA (bel HB.o hb)
   clear hb
   go_wp2_with fail
   have hy:=HY.o
   cases hy
   exact bPr (v:=.tuple #[.i Y.1,.bool (Y.2==0)]) (by simp[results,Tryz.results372,go_sem]) rfl ⟨rfl,HB3.o⟩
theorem bC5 (h:m.op=9\/m.op=17\/m.op=18\/m.op=20\/m.op=23):stZ M m=(0,m.a==m.b):=by unfold stZ;rw[if_pos h]
theorem bC4 (h:m.op=19\/m.op=21\/m.op=22):stZ M m=(1,m.a==m.b):=by unfold stZ;rw[if_neg (by omega),if_pos h]
theorem bC3 (h:m.op=10\/m.op=15):stZ M m=(0,isN M m.a 0 || isN M m.b 0):=by unfold stZ;rw[if_neg (by omega),if_neg (by omega),if_pos h]
theorem bC1 (h:m.op=12):stZ M m=(0,isN M m.b 1):=by unfold stZ;rw[if_neg (by omega),if_neg (by omega),if_neg (by omega),if_pos h]
theorem bC2 (h:m.op=32\/m.op=31):stZ M m=(0,m.k==0):=by unfold stZ;rw[if_neg (by omega),if_neg (by omega),if_neg (by omega),if_neg (by omega),if_pos h]
theorem aS2 (m:In){va:Option Addr}{vn vc:Nat}{W:World}(hM:Ins W va vn vc M)(ho:bE m vn=true) :
  Calls Tryz.prog 373 #[.slice va vn vc,.agg (ia m)] W fun e W'=>e=.returned (.tuple #[.i (stZ M m).1,.bool (stZ M m).2])/\Below W.heap.size W W':=by
 have hb1:=aD W (.cells (ia m) 132)
 have HI:=aA fun r k (h:eD r vn)=>aIx r k (hM.later hb1) h
 have HB:=aA hb1
 have hin:=fun r=>nK ho (r:=r)
 have HE:=aA (aH (aB.new W 132 (ia m)))
 clear hM ho hb1
 by_cases h1:m.op=9\/m.op=17\/m.op=18\/m.op=20\/m.op=23
 ·rw[bC5 h1]
  obtain⟨op,a,b,c,k,s⟩:=m
  dsimp only at h1
  obtain⟨e0,e1,e2,e3,e4,e5⟩:=HE.o
  clear hin HI
  rcases h1 with rfl|rfl|rfl|rfl|rfl
  all_goals
   go_enter Tryz.func373,Tryz.ntmps373
   go_wp2_with fail
   generalize hV:W.alloc (.cells (ia ⟨_,a,b,c,k,s⟩) 132)=V at *
   generalize hq:W.heap.size=q at *
   go_quiet (fail)
   go_wp2_with fail
   exact bPr (v:=.tuple #[.i 0,.bool (a==b)]) (by simp[results,Tryz.results373,go_sem]) rfl ⟨rfl,by rw[<-hq] at *;exact Spn.vZ HB.o _⟩
 by_cases h2:m.op=19\/m.op=21\/m.op=22
 ·rw[bC4 h2]
  obtain⟨op,a,b,c,k,s⟩:=m
  dsimp only at h2
  obtain⟨e0,e1,e2,e3,e4,e5⟩:=HE.o
  clear hin HI h1
  rcases h2 with rfl|rfl|rfl
  all_goals
   go_enter Tryz.func373,Tryz.ntmps373
   go_wp2_with fail
   generalize hV:W.alloc (.cells (ia ⟨_,a,b,c,k,s⟩) 132)=V at *
   generalize hq:W.heap.size=q at *
   go_quiet (fail)
   go_wp2_with fail
   exact bPr (v:=.tuple #[.i 1,.bool (a==b)]) (by simp[results,Tryz.results373,go_sem]) rfl ⟨rfl,by rw[<-hq] at *;exact Spn.vZ HB.o _⟩
 by_cases h3:m.op=10\/m.op=15
 ·rw[bC3 h3]
  have ha2:ar m.op=2:=by rcases h3 with e|e <;> rw[e] <;> decide
  have HJ1:=aA (HI.o m.a 0 (hin m.a (by rw[jI ha2];simp)))
  have HJ2:=aA (HI.o m.b 0 (hin m.b (by rw[jI ha2];simp)))
  obtain⟨op,a,b,c,k,s⟩:=m
  dsimp only at h3 HJ1 HJ2 ⊢
  clear hin HI h1 h2 ha2 HE
  generalize isN M a 0=x at *
  generalize isN M b 0=y at *
  rcases h3 with rfl|rfl
  all_goals
   cases x
   ·go_enter Tryz.func373,Tryz.ntmps373
    go_wp2_with fail
    refine HJ1.o.mono ?_
    rintro e w' ⟨rfl,rfl⟩
    go_wp2_with fail
    refine HJ2.o.mono ?_
    rintro e w' ⟨rfl,rfl⟩
    go_wp2_with fail
    exact bPr (v:=.tuple #[.i 0,.bool y]) (by simp[results,Tryz.results373,go_sem]) rfl ⟨by simp,HB.o⟩
   ·go_enter Tryz.func373,Tryz.ntmps373
    go_wp2_with fail
    refine HJ1.o.mono ?_
    rintro e w' ⟨rfl,rfl⟩
    go_wp2_with fail
    exact bPr (v:=.tuple #[.i 0,.bool true]) (by simp[results,Tryz.results373,go_sem]) rfl ⟨by simp,HB.o⟩
 by_cases h4:m.op=12
 ·rw[bC1 h4]
  have ha2:ar m.op=2:=by rw[h4];decide
  have HJ2:=aA (HI.o m.b 1 (hin m.b (by rw[jI ha2];simp)))
  obtain⟨op,a,b,c,k,s⟩:=m
  dsimp only at h4 HJ2 ⊢
  clear hin HI h1 h2 h3 ha2 HE
  generalize isN M b 1=y at *
  subst h4
  go_enter Tryz.func373,Tryz.ntmps373
  go_wp2_with fail
  refine HJ2.o.mono ?_
  rintro e w' ⟨rfl,rfl⟩
  go_wp2_with fail
  exact bPr (v:=.tuple #[.i 0,.bool y]) (by simp[results,Tryz.results373,go_sem]) rfl ⟨rfl,HB.o⟩
 by_cases h5:m.op=32\/m.op=31
 ·rw[bC2 h5]
  obtain⟨op,a,b,c,k,s⟩:=m
  dsimp only at h5
  obtain⟨e0,e1,e2,e3,e4,e5⟩:=HE.o
  clear hin HI h1 h2 h3 h4
  rcases h5 with rfl|rfl
  all_goals
   go_enter Tryz.func373,Tryz.ntmps373
   go_wp2_with fail
   generalize hV:W.alloc (.cells (ia ⟨_,a,b,c,k,s⟩) 132)=V at *
   generalize hq:W.heap.size=q at *
   go_quiet (fail)
   go_wp2_with fail
   exact bPr (v:=.tuple #[.i 0,.bool (k==0)]) (by simp[results,Tryz.results373,go_sem]) rfl ⟨rfl,by rw[<-hq] at *;exact Spn.vZ HB.o _⟩
 ·rw[show stZ M m=(0,false) by unfold stZ;rw[if_neg h1,if_neg h2,if_neg h3,if_neg h4,if_neg h5]]
  obtain⟨op,a,b,c,k,s⟩:=m
  dsimp only at *
  have q9:(op==9)=false:=by simp;omega
  have q17:(op==17)=false:=by simp;omega
  have q18:(op==18)=false:=by simp;omega
  have q20:(op==20)=false:=by simp;omega
  have q23:(op==23)=false:=by simp;omega
  have q19:(op==19)=false:=by simp;omega
  have q21:(op==21)=false:=by simp;omega
  have q22:(op==22)=false:=by simp;omega
  have q10:(op==10)=false:=by simp;omega
  have q15:(op==15)=false:=by simp;omega
  have q12:(op==12)=false:=by simp;omega
  have q32:(op==32)=false:=by simp;omega
  have q31:(op==31)=false:=by simp;omega
  clear hin HI h1 h2 h3 h4 h5 HE
  go_enter Tryz.func373,Tryz.ntmps373
  go_wp2_with fail
  exact bPr (v:=.tuple #[.i 0,.bool false]) (by simp[results,Tryz.results373,go_sem]) rfl ⟨rfl,HB.o⟩
end Go.Proofs.Fld
