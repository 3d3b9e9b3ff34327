import Derived.Test.YtihbhbeaihdgnaaGreatXH
import Derived.Test.YtihbhbeaihdgnaaGreatX30
import Derived.Test.YtihbhbeaihdgnaaGreatX13
set_option maxRecDepth 100000
set_option maxHeartbeats 32000000
set_option linter.unusedVariables false
namespace Go.Proofs.Fld
open Go.RowKit Go.IntWalk Knd
open YtihbhbeaihdgnaaGreat (Wd fD Fits inpV)
open Cde (In i0 dN bY bB dX jW eH jE dA tN oW iR iA nG rG rF)
open Vfy (nU aZ aL w32 dZ)
variable {a:Int}
abbrev ar:=Spn.ar
abbrev vl:=Spn.bK
abbrev rg (M:List In)(r:Int):In:=M.getD r.toNat i0
def isN (M:List In)(r k:Int):Bool:=(rg M r).op==1&&(rg M r).k==k
def dB (T:List Int)(r:Int):Int:=if r < 0\/(T.length:Int)<=r then r else T.getD r.toNat 0
def bW (n:In)(T:List Int):In :=
 ⟨n.op,if 0 < ar n.op then dB T n.a else n.a,if 1 < ar n.op then dB T n.b else n.b,if 2 < ar n.op then dB T n.c else n.c,n.k,n.s⟩
def bnZ (f d:Int)(n:In):Int × Bool :=
 if n.op=2 then(if n.k=3 then(dR f d,true) else if n.k=4 then(bH f d,true) else if n.k=5 then(aW f d,true) else(0,false)) else(0,false)
def kaL (M:List In)(n:In):List Int:=(dN n).map fun r=>(rg M r).k
def alN (M:List In)(n:In):Bool:=(dN n).all fun r=>(rg M r).op==1
def rkZ (M:List In)(n:In):Int × Bool:=if alN M n=true then((vl n.op n.k n.s (kaL M n)).1,(vl n.op n.k n.s (kaL M n)).2==0) else(0,false)
def stZ (M:List In)(n:In):Int × Bool :=
 if n.op=9\/n.op=17\/n.op=18\/n.op=20\/n.op=23 then(0,n.a==n.b) else
 if n.op=19\/n.op=21\/n.op=22 then(1,n.a==n.b) else
 if n.op=10\/n.op=15 then(0,isN M n.a 0 || isN M n.b 0) else
 if n.op=12 then(0,isN M n.b 1) else
 if n.op=32\/n.op=31 then(0,n.k==0) else(0,false)
def knZ (f d:Int)(M:List In)(n:In):Int × Bool:=if (bnZ f d n).2=true then bnZ f d n else if (rkZ M n).2=true then rkZ M n else stZ M n
def lU (M:List In)(n:In):List (Bool × Int) :=
 if n.op=8\/n.op=17 then[(isN M n.a 0,n.b),(isN M n.b 0,n.a)] else
 if n.op=10 then[(isN M n.a 1,n.b),(isN M n.b 1,n.a)] else
 if n.op=16 then[(n.a==n.b,n.a),(isN M n.a 0,n.b),(isN M n.b 0,n.a)] else
 if n.op=15 then[(n.a==n.b,n.a),(isN M n.a (-1),n.b),(isN M n.b (-1),n.a)] else
 if n.op=24\/n.op=25 then[(n.a==n.b,n.a)] else
 if n.op=9\/n.op=13\/n.op=14 then[(isN M n.b 0,n.a)] else
 if n.op=11 then[(isN M n.b 1,n.a)] else
 if n.op=29\/n.op=30 then[(n.k==0,n.a)] else
 if n.op=32 then[(n.k==1,n.a)] else
 if n.op=5 then[((rg M n.a).op==5,(rg M n.a).a)] else
 if n.op=6 then[((rg M n.a).op==6,n.a)] else
 if n.op=28 then[(isN M n.a 0,n.c),((rg M n.a).op==1,n.b),(n.b==n.c,n.b)] else
 if n.op=27 then[(n.a==n.b || n.a==n.c,n.a),(n.b==n.c,n.b)] else
 if n.op=26 then[(n.b==n.c,n.b)] else[]
def yZ (own:Int):List (Bool × Int)->Int
 | []=>own
 | p::L=>if p.1=true then p.2 else yZ own L
def nuI (x:Int):In:=⟨1,0,0,0,x,0⟩
def nwI (f d:Int)(M:List In)(m:In):In:=if (knZ f d M m).2=true then nuI (knZ f d M m).1 else m
def nwT (f d:Int)(M:List In)(m:In)(own:Int):Int:=if (knZ f d M m).2=true then own else yZ own (lU M m)
def foS (f d:Int)(s:List In × List Int)(n:In):List In × List Int :=
 (s.1++[nwI f d s.1 (bW n s.2)],s.2++[nwT f d s.1 (bW n s.2) s.1.length])
def nV (f d:Int)(L:List In):List In × List Int:=L.foldl (foS f d) ([],[])
theorem wT (f d:Int)(L:List In)(n:In):nV f d (L++[n])=foS f d (nV f d L) n:=by simp[nV]
theorem aBh (f d:Int)(L:List In):∀ k,k<=L.length->(nV f d (L.take k)).1.length=k/\(nV f d (L.take k)).2.length=k
 | 0,_=>by simp[nV]
 | k+1,h=>by
  have ih:=aBh f d L k (by omega)
  rw[Cde.aH i0 (by omega),wT,foS]
  simp[ih.1,ih.2]
def foO (f d:Int)(L:List In)(out:Int):Int:=(nV f d L).2.getD out.toNat 0
def fdL (f d:Int)(L:List In)(out:Int):List In:=if aZ f d (nV f d L).1 (foO f d L out)=0 then(nV f d L).1 else L
def fdO (f d:Int)(L:List In)(out:Int):Int:=if aZ f d (nV f d L).1 (foO f d L out)=0 then foO f d L out else out
theorem mI {M Z:List In}{i:Nat}(h:i < M.length):(M++Z).getD i i0=M.getD i i0:=by
 rw[List.getD_eq_getElem?_getD,List.getElem?_append_left h,<-List.getD_eq_getElem?_getD]
theorem kE (M:List In)(n:In):(M++[n]).getD M.length i0=n:=by simp[List.getD_eq_getElem?_getD]
theorem bJ (V:List Int)(x:Int):(V++[x]).getD V.length 0=x:=by simp[List.getD_eq_getElem?_getD]
theorem ofI (ha:w32 a):(BitVec.ofInt 64 a).toInt=a:=by
 obtain⟨h1,h2⟩:=ha
 rw[BitVec.toInt_ofInt]
 exact Int.bmod_eq_of_le (by omega) (by omega)
theorem aIc (ha:w32 a):bits .and .i64 a a=a:=by
 have:=Spn.fV .and a a
 simp only[Spn.mY.bv,BitVec.and_self,ofI ha] at this
 exact this
theorem aMt (ha:w32 a):bits .or .i64 a a=a:=by
 have:=Spn.fV .or a a
 simp only[Spn.mY.bv,BitVec.or_self,ofI ha] at this
 exact this
theorem aJ4 (a:Int):bits .xor .i64 a a=0:=by
 have:=Spn.fV .xor a a
 simp only[Spn.mY.bv,BitVec.xor_self] at this
 exact this
theorem zL (a:Int):bits .and .i64 a 0=0:=by
 have:=Spn.fV .and a 0
 simp only[Spn.mY.bv,show BitVec.ofInt 64 0=0#64 from rfl,BitVec.and_zero] at this
 exact this
theorem aA0 (a:Int):bits .and .i64 0 a=0:=by
 have:=Spn.fV .and 0 a
 simp only[Spn.mY.bv,show BitVec.ofInt 64 0=0#64 from rfl,BitVec.zero_and] at this
 exact this
theorem aMu (ha:w32 a):bits .or .i64 a 0=a:=by
 have:=Spn.fV .or a 0
 simp only[Spn.mY.bv,show BitVec.ofInt 64 0=0#64 from rfl,BitVec.or_zero,ofI ha] at this
 exact this
theorem aOp (ha:w32 a):bits .or .i64 0 a=a:=by
 have:=Spn.fV .or 0 a
 simp only[Spn.mY.bv,show BitVec.ofInt 64 0=0#64 from rfl,BitVec.zero_or,ofI ha] at this
 exact this
theorem aJ5 (ha:w32 a):bits .xor .i64 a 0=a:=by
 have:=Spn.fV .xor a 0
 simp only[Spn.mY.bv,show BitVec.ofInt 64 0=0#64 from rfl,BitVec.xor_zero,ofI ha] at this
 exact this
theorem aJ8 (ha:w32 a):bits .xor .i64 0 a=a:=by
 have:=Spn.fV .xor 0 a
 simp only[Spn.mY.bv,show BitVec.ofInt 64 0=0#64 from rfl,BitVec.zero_xor,ofI ha] at this
 exact this
theorem aIb (ha:w32 a):bits .and .i64 a (-1)=a:=by
 have:=Spn.fV .and a (-1)
 simp only[Spn.mY.bv,show BitVec.ofInt 64 (-1)=BitVec.allOnes 64 from rfl,BitVec.and_allOnes,ofI ha] at this
 exact this
theorem aAo (ha:w32 a):bits .and .i64 (-1) a=a:=by
 have:=Spn.fV .and (-1) a
 simp only[Spn.mY.bv,show BitVec.ofInt 64 (-1)=BitVec.allOnes 64 from rfl,BitVec.allOnes_and,ofI ha] at this
 exact this
theorem yO {op k s x:Int}{xs:List Int}(h:vl op k s xs=(x,0)):(∀ z ∈ xs,w32 z)/\Spn.ex op k s (xs.getD 0 0) (xs.getD 1 0) (xs.getD 2 0)=(x,0)/\w32 x/\1<=ar op:=by
 have hw:=Vfy.vU h
 unfold vl Spn.bK at h
 split at h
 ·rename_i hm
  simp only[Spn.iC,Bool.and_eq_true,decide_eq_true_eq,List.all_eq_true] at hm
  refine⟨fun z hz=>Spn.dE.1 (hm.2 z hz),?_,hw,hm.1.1.1⟩
  split at h
  ·rename_i h0
   split at h
   ·cases h
    exact Prod.ext rfl h0
   ·cases h
  ·rename_i h0
   exact absurd (congrArg Prod.snd h) h0
 ·cases h
theorem aGc {r:Int}{u:Bool}{i j:Int}(h:rF r u i=true)(hj:i<=j):rF r u j=true:=by
 unfold rF at *
 cases u
 ·exact h
 ·simp only[if_true,Spn.aO] at *
  omega
theorem aU1 {n:In}{i j:Nat}(h:bB n i=true)(hj:i<=j):bB n j=true:=by
 simp only[bB,rG,Bool.and_eq_true] at *
 obtain⟨⟨h1,⟨h2,h3⟩,h4⟩,h5⟩:=h
 have e:(i:Int)<=j:=by omega
 exact⟨⟨h1,⟨aGc h2 e,aGc h3 e⟩,aGc h4 e⟩,h5⟩
structure Rv (f d:Int)(v:Wd)(M:List In)(V:List Int):Prop where
 len:V.length=M.length
 ok:∀ i,i < M.length->bB (M.getD i i0) i=true
 val:∀ i,i < M.length->dA f d v V (M.getD i i0)=(V.getD i 0,0)
theorem Rv.nil (f d:Int)(v:Wd):Rv f d v [] []:=⟨rfl,fun i h=>by simp at h,fun i h=>by simp at h⟩
theorem Rv.snoc {f d:Int}{v:Wd}{M:List In}{V:List Int}{n:In}{x:Int}(h:Rv f d v M V)(ho:bB n M.length=true)(hx:dA f d v V n=(x,0)):Rv f d v (M++[n]) (V++[x]):=by
 have hl:=h.len
 refine⟨by simp[hl],fun i hi=>?_,fun i hi=>?_⟩
 ·simp only[List.length_append,List.length_cons,List.length_nil] at hi
  by_cases e:i < M.length
  ·rw[mI e];exact h.ok i e
  ·obtain rfl:i=M.length:=by omega
   rw[kE];exact ho
 ·simp only[List.length_append,List.length_cons,List.length_nil] at hi
  by_cases e:i < M.length
  ·rw[mI e,Cde.aC1 (aU1 (h.ok i e) (by omega)),h.val i e,Cde.cK (by omega)]
  ·obtain rfl:i=M.length:=by omega
   rw[kE,Cde.aC1 (by rw[hl];exact ho),hx,<-hl,bJ]
end Go.Proofs.Fld
namespace Go.Proofs.Fld
open Go.RowKit Go.IntWalk Knd
open YtihbhbeaihdgnaaGreat (Wd fD Fits inpV)
open Cde (In i0 dN bY bB dX jW eH jE dA tN oW iR iA nG rG rF)
open Vfy (nU aZ aL w32 dZ)
variable {m n:In} {d f op r s x z:Int} {v:Wd} {M:List In} {T V:List Int} {k:Nat}
def gv (V:List Int)(r:Int):Int:=V.getD r.toNat 0
theorem vW (h:ar n.op=1):dN n=[n.a]:=by unfold dN bY;rw[show Spn.ar n.op=1 from h];rfl
theorem iQ (h:ar n.op=2):dN n=[n.a,n.b]:=by unfold dN bY;rw[show Spn.ar n.op=2 from h];rfl
theorem nS (h:ar n.op=3):dN n=[n.a,n.b,n.c]:=by unfold dN bY;rw[show Spn.ar n.op=3 from h];rfl
theorem zN (h:ar n.op=1)(V:List Int):iA V n=[gv V n.a]:=by unfold iA;rw[vW h];rfl
theorem tJ (h:ar n.op=2)(V:List Int):iA V n=[gv V n.a,gv V n.b]:=by unfold iA;rw[iQ h];rfl
theorem av3 (h:ar n.op=3)(V:List Int):iA V n=[gv V n.a,gv V n.b,gv V n.c]:=by unfold iA;rw[nS h];rfl
def dL (r:Int)(i:Nat):Prop:=0<=r/\r.toNat < i
theorem mM {i:Nat}(h:bB n i=true)(hr:r ∈ dN n):dL r i:=Vfy.nY h hr
theorem Rv.reg (h:Rv f d v M V)(hr:dL r M.length):bB (rg M r) r.toNat=true/\dA f d v V (rg M r)=(gv V r,0):=⟨h.ok _ hr.2,h.val _ hr.2⟩
theorem Rv.num (h:Rv f d v M V)(hr:dL r M.length)(ho:(rg M r).op=1):gv V r=(rg M r).k:=by
 have:=(h.reg hr).2
 rw[dA,if_pos ho] at this
 exact(congrArg Prod.fst this).symm
theorem Rv.isN {f d:Int}{v:Wd}{M:List In}{V:List Int}(h:Rv f d v M V){r k:Int}(hr:dL r M.length)(ho:isN M r k=true):gv V r=k:=by
 simp only[Fld.isN,Bool.and_eq_true,beq_iff_eq] at ho
 rw[h.num hr ho.1,ho.2]
theorem bF (h:1<=ar n.op):dA f d v V n=vl n.op n.k n.s (iA V n):=by
 have h1:n.op≠1:=fun e=>by rw[e] at h;exact absurd h (by decide)
 have h2:n.op≠2:=fun e=>by rw[e] at h;exact absurd h (by decide)
 have h3:n.op≠3:=fun e=>by rw[e] at h;exact absurd h (by decide)
 rw[dA,if_neg h1,if_neg h2,if_neg h3]
theorem Rv.neg (h:Rv f d v M V)(hr:dL r M.length)(ho:(rg M r).op=5):dL (rg M r).a M.length/\gv V r=- gv V (rg M r).a:=by
 obtain⟨h1,h2⟩:=h.reg hr
 have ha:ar (rg M r).op=1:=by rw[ho];decide
 have hin:=mM h1 (r:=(rg M r).a) (by rw[vW ha];simp)
 refine⟨⟨hin.1,Nat.lt_trans hin.2 hr.2⟩,?_⟩
 rw[bF (by omega),zN ha] at h2
 obtain⟨-,e,-⟩:=yO h2
 rw[ho] at e
 simp[Spn.ex] at e
 exact e.symm
theorem Rv.abs (h:Rv f d v M V)(hr:dL r M.length)(ho:(rg M r).op=6):0<=gv V r:=by
 obtain⟨h1,h2⟩:=h.reg hr
 have ha:ar (rg M r).op=1:=by rw[ho];decide
 rw[bF (by omega),zN ha] at h2
 obtain⟨-,e,-⟩:=yO h2
 rw[ho] at e
 simp[Spn.ex] at e
 have e':max (gv V (rg M r).a) (-gv V (rg M r).a)=gv V r:=e
 omega
theorem fJ {k y:Int}(h:vl op k s [x,y]=(z,0)):w32 x/\w32 y/\Spn.ex op k s x y 0=(z,0):=by
 obtain⟨h1,h2,-⟩:=yO h
 exact⟨h1 x (by simp),h1 y (by simp),h2⟩
theorem lW {k:Int}(h:vl op k s [x]=(z,0)):w32 x/\Spn.ex op k s x 0 0=(z,0):=by
 obtain⟨h1,h2,-⟩:=yO h
 exact⟨h1 x (by simp),h2⟩
theorem yJ {k y u:Int}(h:vl op k s [x,y,u]=(z,0)):w32 x/\w32 y/\w32 u/\Spn.ex op k s x y u=(z,0):=by
 obtain⟨h1,h2,-⟩:=yO h
 exact⟨h1 x (by simp),h1 y (by simp),h1 u (by simp),h2⟩
theorem aVw (h:Rv f d v M V)(ho:bB m M.length=true)(hx:dA f d v V m=(x,0))(hs:(stZ M m).2=true):(stZ M m).1=x:=by
 have hin:=fun r=>mM ho (r:=r)
 unfold stZ at hs ⊢
 split at hs
 ·rename_i hop
  rw[if_pos hop]
  have ha:ar m.op=2:=by rcases hop with e|e|e|e|e <;> rw[e] <;> decide
  rw[bF (by omega),tJ ha] at hx
  obtain⟨-,-,e⟩:=fJ hx
  have hab:m.a=m.b:=by simpa using hs
  rw[hab] at e
  generalize gv V m.b=y at e
  rcases hop with q|q|q|q|q <;> rw[q] at e <;> simp[Spn.ex,Spn.tr,aJ4] at e <;> omega
 rename_i h1
 rw[if_neg h1]
 split at hs
 ·rename_i hop
  rw[if_pos hop]
  have ha:ar m.op=2:=by rcases hop with e|e|e <;> rw[e] <;> decide
  rw[bF (by omega),tJ ha] at hx
  obtain⟨-,-,e⟩:=fJ hx
  have hab:m.a=m.b:=by simpa using hs
  rw[hab] at e
  generalize gv V m.b=y at e
  rcases hop with q|q|q <;> rw[q] at e <;> simp[Spn.ex,Spn.tr] at e <;> omega
 rename_i h2
 rw[if_neg h2]
 split at hs
 ·rename_i hop
  rw[if_pos hop]
  have ha:ar m.op=2:=by rcases hop with e|e <;> rw[e] <;> decide
  have ia:=hin m.a (by rw[iQ ha];simp)
  have ib:=hin m.b (by rw[iQ ha];simp)
  rw[bF (by omega),tJ ha] at hx
  obtain⟨-,-,e⟩:=fJ hx
  simp only[Bool.or_eq_true] at hs
  rcases hs with hs|hs
  ·rw[h.isN ia hs] at e
   rcases hop with q|q <;> rw[q] at e <;> simp[Spn.ex,aA0] at e <;> omega
  ·rw[h.isN ib hs] at e
   rcases hop with q|q <;> rw[q] at e <;> simp[Spn.ex,zL] at e <;> omega
 rename_i h3
 rw[if_neg h3]
 split at hs
 ·rename_i hop
  rw[if_pos hop]
  have ha:ar m.op=2:=by rw[hop];decide
  have ib:=hin m.b (by rw[iQ ha];simp)
  rw[bF (by omega),tJ ha] at hx
  obtain⟨-,-,e⟩:=fJ hx
  rw[h.isN ib hs,hop] at e
  simp[Spn.ex,Int.tmod_one] at e
  omega
 rename_i h4
 rw[if_neg h4]
 split at hs
 ·rename_i hop
  rw[if_pos hop]
  have ha:ar m.op=1:=by rcases hop with e|e <;> rw[e] <;> decide
  rw[bF (by omega),zN ha] at hx
  obtain⟨-,e⟩:=lW hx
  have hk:m.k=0:=by simpa using hs
  rw[hk] at e
  rcases hop with q|q <;> rw[q] at e <;> simp[Spn.ex,zL] at e <;> omega
 ·cases hs
theorem aT9 (h28:m.op≠28)(h:Rv f d v M V)(ho:bB m M.length=true)(hx:dA f d v V m=(x,0)) :
  ∀ p ∈ lU M m,p.1=true->dL p.2 M.length/\gv V p.2=x:=by
 have hin:=fun r=>mM ho (r:=r)
 unfold lU
 by_cases hop:m.op=8\/m.op=17
 ·rw[if_pos hop]
  have ha:ar m.op=2:=by rcases hop with e|e <;> rw[e] <;> decide
  have ia:=hin m.a (by rw[iQ ha];simp)
  have ib:=hin m.b (by rw[iQ ha];simp)
  rw[bF (by omega),tJ ha] at hx
  obtain⟨w1,w2,e⟩:=fJ hx
  intro p hp hs
  simp only[List.mem_cons,List.not_mem_nil,or_false] at hp
  rcases hp with rfl|rfl
  ·refine⟨ib,?_⟩
   rw[h.isN ia hs] at e
   rcases hop with q|q <;> rw[q] at e <;> simp[Spn.ex,aJ8 w2] at e <;> exact e
  ·refine⟨ia,?_⟩
   rw[h.isN ib hs] at e
   rcases hop with q|q <;> rw[q] at e <;> simp[Spn.ex,aJ5 w1] at e <;> exact e
 rw[if_neg hop]
 clear hop
 by_cases hop:m.op=10
 ·rw[if_pos hop]
  have ha:ar m.op=2:=by rw[hop];decide
  have ia:=hin m.a (by rw[iQ ha];simp)
  have ib:=hin m.b (by rw[iQ ha];simp)
  rw[bF (by omega),tJ ha] at hx
  obtain⟨w1,w2,e⟩:=fJ hx
  intro p hp hs
  simp only[List.mem_cons,List.not_mem_nil,or_false] at hp
  rcases hp with rfl|rfl
  ·refine⟨ib,?_⟩
   rw[h.isN ia hs,hop] at e
   simp[Spn.ex] at e
   exact e
  ·refine⟨ia,?_⟩
   rw[h.isN ib hs,hop] at e
   simp[Spn.ex] at e
   exact e
 rw[if_neg hop]
 clear hop
 by_cases hop:m.op=16
 ·rw[if_pos hop]
  have ha:ar m.op=2:=by rw[hop];decide
  have ia:=hin m.a (by rw[iQ ha];simp)
  have ib:=hin m.b (by rw[iQ ha];simp)
  rw[bF (by omega),tJ ha,hop] at hx
  obtain⟨w1,w2,e⟩:=fJ hx
  intro p hp hs
  simp only[List.mem_cons,List.not_mem_nil,or_false] at hp
  rcases hp with rfl|rfl|rfl
  ·refine⟨ia,?_⟩
   have hab:m.a=m.b:=by simpa using hs
   rw[<-hab] at e
   simp[Spn.ex,aMt w1] at e
   exact e
  ·refine⟨ib,?_⟩
   rw[h.isN ia hs] at e
   simp[Spn.ex,aOp w2] at e
   exact e
  ·refine⟨ia,?_⟩
   rw[h.isN ib hs] at e
   simp[Spn.ex,aMu w1] at e
   exact e
 rw[if_neg hop]
 clear hop
 by_cases hop:m.op=15
 ·rw[if_pos hop]
  have ha:ar m.op=2:=by rw[hop];decide
  have ia:=hin m.a (by rw[iQ ha];simp)
  have ib:=hin m.b (by rw[iQ ha];simp)
  rw[bF (by omega),tJ ha,hop] at hx
  obtain⟨w1,w2,e⟩:=fJ hx
  intro p hp hs
  simp only[List.mem_cons,List.not_mem_nil,or_false] at hp
  rcases hp with rfl|rfl|rfl
  ·refine⟨ia,?_⟩
   have hab:m.a=m.b:=by simpa using hs
   rw[<-hab] at e
   simp[Spn.ex,aIc w1] at e
   exact e
  ·refine⟨ib,?_⟩
   rw[h.isN ia hs] at e
   simp[Spn.ex,aAo w2] at e
   exact e
  ·refine⟨ia,?_⟩
   rw[h.isN ib hs] at e
   simp[Spn.ex,aIb w1] at e
   exact e
 rw[if_neg hop]
 clear hop
 by_cases hop:m.op=24\/m.op=25
 ·rw[if_pos hop]
  have ha:ar m.op=2:=by rcases hop with e|e <;> rw[e] <;> decide
  have ia:=hin m.a (by rw[iQ ha];simp)
  rw[bF (by omega),tJ ha] at hx
  obtain⟨w1,w2,e⟩:=fJ hx
  intro p hp hs
  simp only[List.mem_cons,List.not_mem_nil,or_false] at hp
  subst hp
  refine⟨ia,?_⟩
  have hab:m.a=m.b:=by simpa using hs
  rw[<-hab] at e
  rcases hop with q|q <;> rw[q] at e <;> simp[Spn.ex] at e <;> exact e
 rw[if_neg hop]
 clear hop
 by_cases hop:m.op=9\/m.op=13\/m.op=14
 ·rw[if_pos hop]
  have ha:ar m.op=2:=by rcases hop with e|e|e <;> rw[e] <;> decide
  have ia:=hin m.a (by rw[iQ ha];simp)
  have ib:=hin m.b (by rw[iQ ha];simp)
  rw[bF (by omega),tJ ha] at hx
  obtain⟨w1,w2,e⟩:=fJ hx
  intro p hp hs
  simp only[List.mem_cons,List.not_mem_nil,or_false] at hp
  subst hp
  refine⟨ia,?_⟩
  rw[h.isN ib hs] at e
  rcases hop with q|q|q <;> rw[q] at e <;> simp[Spn.ex,Spn.gG] at e <;> exact e
 rw[if_neg hop]
 clear hop
 by_cases hop:m.op=11
 ·rw[if_pos hop]
  have ha:ar m.op=2:=by rw[hop];decide
  have ia:=hin m.a (by rw[iQ ha];simp)
  have ib:=hin m.b (by rw[iQ ha];simp)
  rw[bF (by omega),tJ ha,hop] at hx
  obtain⟨w1,w2,e⟩:=fJ hx
  intro p hp hs
  simp only[List.mem_cons,List.not_mem_nil,or_false] at hp
  subst hp
  refine⟨ia,?_⟩
  rw[h.isN ib hs] at e
  simp[Spn.ex,Int.tdiv_one] at e
  exact e
 rw[if_neg hop]
 clear hop
 by_cases hop:m.op=29\/m.op=30
 ·rw[if_pos hop]
  have ha:ar m.op=1:=by rcases hop with e|e <;> rw[e] <;> decide
  have ia:=hin m.a (by rw[vW ha];simp)
  rw[bF (by omega),zN ha] at hx
  obtain⟨w1,e⟩:=lW hx
  intro p hp hs
  simp only[List.mem_cons,List.not_mem_nil,or_false] at hp
  subst hp
  refine⟨ia,?_⟩
  have hk:m.k=0:=by simpa using hs
  rw[hk] at e
  rcases hop with q|q <;> rw[q] at e <;> simp[Spn.ex] at e <;> exact e
 rw[if_neg hop]
 clear hop
 by_cases hop:m.op=32
 ·rw[if_pos hop]
  have ha:ar m.op=1:=by rw[hop];decide
  have ia:=hin m.a (by rw[vW ha];simp)
  rw[bF (by omega),zN ha,hop] at hx
  obtain⟨w1,e⟩:=lW hx
  intro p hp hs
  simp only[List.mem_cons,List.not_mem_nil,or_false] at hp
  subst hp
  refine⟨ia,?_⟩
  have hk:m.k=1:=by simpa using hs
  rw[hk] at e
  simp[Spn.ex] at e
  exact e
 rw[if_neg hop]
 clear hop
 by_cases hop:m.op=5
 ·rw[if_pos hop]
  have ha:ar m.op=1:=by rw[hop];decide
  have ia:=hin m.a (by rw[vW ha];simp)
  rw[bF (by omega),zN ha,hop] at hx
  obtain⟨w1,e⟩:=lW hx
  intro p hp hs
  simp only[List.mem_cons,List.not_mem_nil,or_false] at hp
  subst hp
  obtain⟨i2,e2⟩:=h.neg ia (by simpa using hs)
  refine⟨i2,?_⟩
  rw[e2] at e
  simp[Spn.ex] at e
  exact e
 rw[if_neg hop]
 clear hop
 by_cases hop:m.op=6
 ·rw[if_pos hop]
  have ha:ar m.op=1:=by rw[hop];decide
  have ia:=hin m.a (by rw[vW ha];simp)
  rw[bF (by omega),zN ha,hop] at hx
  obtain⟨w1,e⟩:=lW hx
  intro p hp hs
  simp only[List.mem_cons,List.not_mem_nil,or_false] at hp
  subst hp
  have e2:=h.abs ia (by simpa using hs)
  refine⟨ia,?_⟩
  have e3:=congrArg Prod.fst e
  simp only[Spn.ex] at e3
  change max (gv V m.a) (-gv V m.a)=x at e3
  show gv V m.a=x
  omega
 rw[if_neg hop]
 clear hop
 by_cases hop:m.op=28
 ·rw[if_pos hop]
  exact absurd hop h28
 rw[if_neg hop]
 clear hop
 by_cases hop:m.op=27
 ·rw[if_pos hop]
  have ha:ar m.op=3:=by rw[hop];decide
  have ia:=hin m.a (by rw[nS ha];simp)
  have ib:=hin m.b (by rw[nS ha];simp)
  rw[bF (by omega),av3 ha,hop] at hx
  obtain⟨w1,w2,w3,e⟩:=yJ hx
  have e3:max (min (gv V m.a) (gv V m.b)) (min (max (gv V m.a) (gv V m.b)) (gv V m.c))=x:=by
   have:=congrArg Prod.fst e
   simpa [Spn.ex] using this
  intro p hp hs
  simp only[List.mem_cons,List.not_mem_nil,or_false] at hp
  rcases hp with rfl|rfl
  ·refine⟨ia,?_⟩
   show gv V m.a=x
   simp only[Bool.or_eq_true,beq_iff_eq] at hs
   rcases hs with hs|hs
   ·rw[<-hs] at e3;omega
   ·rw[<-hs] at e3;omega
  ·refine⟨ib,?_⟩
   show gv V m.b=x
   simp only[beq_iff_eq] at hs
   rw[<-hs] at e3;omega
 rw[if_neg hop]
 clear hop
 by_cases hop:m.op=26
 ·rw[if_pos hop]
  have ha:ar m.op=3:=by rw[hop];decide
  have ib:=hin m.b (by rw[nS ha];simp)
  rw[bF (by omega),av3 ha,hop] at hx
  obtain⟨w1,w2,w3,e⟩:=yJ hx
  have e3:min (gv V m.c) (max (gv V m.a) (gv V m.b))=x:=by
   have:=congrArg Prod.fst e
   simpa [Spn.ex] using this
  intro p hp hs
  simp only[List.mem_cons,List.not_mem_nil,or_false] at hp
  subst hp
  refine⟨ib,?_⟩
  show gv V m.b=x
  simp only[beq_iff_eq] at hs
  rw[<-hs] at e3;omega
 ·rw[if_neg hop]
  intro p hp
  cases hp
theorem aLb (own:Int):∀ L:List (Bool × Int),yZ own L=own\/∃ p ∈ L,p.1=true/\yZ own L=p.2
 | []=>.inl rfl
 | p::L=>by
  unfold yZ
  split
  ·rename_i hp
   exact .inr ⟨p,by simp,hp,rfl⟩
  ·rcases aLb own L with h|⟨q,h1,h2,h3⟩
   ·exact .inl h
   ·exact .inr ⟨q,by simp[h1],h2,h3⟩
theorem aTo (h:Rv f d v M V)(ho:bB m M.length=true)(hx:dA f d v V m=(x,0))(own:Int) :
  yZ own (lU M m)=own\/(dL (yZ own (lU M m)) M.length/\gv V (yZ own (lU M m))=x):=by
 by_cases hop:m.op=28
 ·have hin:=fun r=>mM ho (r:=r)
  have ha:ar m.op=3:=by rw[hop];decide
  have ia:=hin m.a (by rw[nS ha];simp)
  have ib:=hin m.b (by rw[nS ha];simp)
  have ic:=hin m.c (by rw[nS ha];simp)
  rw[bF (by omega),av3 ha,hop] at hx
  obtain⟨w1,w2,w3,e⟩:=yJ hx
  have e3:(if gv V m.a=0 then gv V m.c else gv V m.b)=x:=by
   have:=congrArg Prod.fst e
   simpa [Spn.ex] using this
  have el:lU M m=[(isN M m.a 0,m.c),((rg M m.a).op==1,m.b),(m.b==m.c,m.b)]:=by unfold lU;rw[hop];simp
  rw[el]
  simp only[yZ]
  by_cases h1:isN M m.a 0=true
  ·rw[if_pos h1]
   rw[h.isN ia h1,if_pos rfl] at e3
   exact .inr ⟨ic,e3⟩
  rw[if_neg h1]
  by_cases h2:((rg M m.a).op==1)=true
  ·rw[if_pos h2]
   refine .inr ⟨ib,?_⟩
   have hn:=h.num ia (by simpa using h2)
   have h0:gv V m.a≠0:=by
    intro h0
    apply h1
    simp only[Fld.isN,Bool.and_eq_true]
    refine⟨h2,?_⟩
    rw[hn] at h0
    simpa using h0
   rw[if_neg h0] at e3
   exact e3
  rw[if_neg h2]
  by_cases h3:(m.b==m.c)=true
  ·rw[if_pos h3]
   refine .inr ⟨ib,?_⟩
   have hbc:m.b=m.c:=by simpa using h3
   rw[<-hbc] at e3
   split at e3 <;> exact e3
  ·rw[if_neg h3]
   exact .inl rfl
 ·rcases aLb own (lU M m) with e|⟨p,h1,h2,h3⟩
  ·exact .inl e
  ·right
   rw[h3]
   exact aT9 hop h ho hx p h1 h2
structure St (V:List Int)(T:List Int)(k:Nat):Prop where
 len:T.length=k
 vl:V.length=k
 at':∀ i,i < k->0<=T.getD i 0/\(T.getD i 0).toNat<=i/\gv V (T.getD i 0)=V.getD i 0
theorem St.ex (h:St V T k)(hr:dL r k):dL (dB T r) k/\gv V (dB T r)=gv V r:=by
 obtain⟨h1,h2,h3⟩:=h.at' r.toNat hr.2
 have e:dB T r=T.getD r.toNat 0:=by
  unfold dB
  rw[if_neg]
  have:=h.len
  have:=hr.1
  have:=hr.2
  omega
 rw[e]
 exact⟨⟨h1,by have:=hr.2;omega⟩,h3⟩
theorem jQ {u:Bool}{i:Nat}:rF r u i=true↔(u=true->dL r i)/\(u=false->r=0):=by
 unfold rF dL
 cases u
 ·simp
 ·simp only[if_true,Spn.aO]
  constructor
  ·intro h;exact⟨fun _=>by omega,fun h=>by cases h⟩
  ·intro h;have:=h.1 trivial;omega
theorem aEw (h:St V T k)(ho:bB n k=true):bB (bW n T) k=true:=by
 have hc:=Cde.qP ho
 have ha:=Cde.aAn ho
 simp only[bB,rG,Bool.and_eq_true,jQ] at ho
 obtain⟨⟨-,⟨⟨a1,a2⟩,b1,b2⟩,c1,c2⟩,-⟩:=ho
 simp only[decide_eq_true_eq,decide_eq_false_iff_not] at a1 a2 b1 b2 c1 c2
 have hc':nG (bW n T)=true:=hc
 simp only[bB,rG,Bool.and_eq_true,jQ,hc',decide_eq_true_eq,decide_eq_false_iff_not]
 refine⟨⟨ha,⟨⟨fun u=>?_,fun u=>?_⟩,fun u=>?_,fun u=>?_⟩,fun u=>?_,fun u=>?_⟩,trivial⟩
 ·show dL (if 0 < ar n.op then dB T n.a else n.a) k
  rw[if_pos (show 0 < ar n.op from u)];exact(h.ex (a1 u)).1
 ·show (if 0 < ar n.op then dB T n.a else n.a)=0
  rw[if_neg (show ¬0 < ar n.op from u)];exact a2 u
 ·show dL (if 1 < ar n.op then dB T n.b else n.b) k
  rw[if_pos (show 1 < ar n.op from u)];exact(h.ex (b1 u)).1
 ·show (if 1 < ar n.op then dB T n.b else n.b)=0
  rw[if_neg (show ¬1 < ar n.op from u)];exact b2 u
 ·show dL (if 2 < ar n.op then dB T n.c else n.c) k
  rw[if_pos (show 2 < ar n.op from u)];exact(h.ex (c1 u)).1
 ·show (if 2 < ar n.op then dB T n.c else n.c)=0
  rw[if_neg (show ¬2 < ar n.op from u)];exact c2 u
theorem aVz (h:St V T k)(ho:bB n k=true):iA V (bW n T)=iA V n:=by
 have hin:=fun r=>mM ho (r:=r)
 have ha:=Cde.aAn ho
 have h3:=Spn.vZ n.op
 rcases(show ar n.op=0\/ar n.op=1\/ar n.op=2\/ar n.op=3 by unfold ar;omega) with e|e|e|e
 ·have e1:dN n=[]:=by unfold dN bY;rw[show Spn.ar n.op=0 from e];rfl
  have e2:dN (bW n T)=[]:=by unfold dN bY;rw[show Spn.ar (bW n T).op=0 from e];rfl
  unfold iA;rw[e1,e2]
 ·rw[zN e,zN (n:=bW n T) e]
  have ea:(bW n T).a=dB T n.a:=by show (if 0 < ar n.op then dB T n.a else n.a)=_;rw[if_pos (by omega)]
  rw[ea,(h.ex (hin n.a (by rw[vW e];simp))).2]
 ·rw[tJ e,tJ (n:=bW n T) e]
  have ea:(bW n T).a=dB T n.a:=by show (if 0 < ar n.op then dB T n.a else n.a)=_;rw[if_pos (by omega)]
  have eb:(bW n T).b=dB T n.b:=by show (if 1 < ar n.op then dB T n.b else n.b)=_;rw[if_pos (by omega)]
  rw[ea,eb,(h.ex (hin n.a (by rw[iQ e];simp))).2,(h.ex (hin n.b (by rw[iQ e];simp))).2]
 ·rw[av3 e,av3 (n:=bW n T) e]
  have ea:(bW n T).a=dB T n.a:=by show (if 0 < ar n.op then dB T n.a else n.a)=_;rw[if_pos (by omega)]
  have eb:(bW n T).b=dB T n.b:=by show (if 1 < ar n.op then dB T n.b else n.b)=_;rw[if_pos (by omega)]
  have ec:(bW n T).c=dB T n.c:=by show (if 2 < ar n.op then dB T n.c else n.c)=_;rw[if_pos (by omega)]
  rw[ea,eb,ec,(h.ex (hin n.a (by rw[nS e];simp))).2,(h.ex (hin n.b (by rw[nS e];simp))).2,(h.ex (hin n.c (by rw[nS e];simp))).2]
theorem aOc (h:St V T k)(ho:bB n k=true):dA f d v V (bW n T)=dA f d v V n:=by
 unfold dA
 rw[aVz h ho]
 rfl
theorem aRf (h:Rv f d v M V)(ho:bB m M.length=true)(ha:alN M m=true):kaL M m=iA V m:=by
 unfold kaL iA
 apply List.map_congr_left
 intro r hr
 simp only[alN,List.all_eq_true] at ha
 exact(h.num (mM ho hr) (by simpa using ha r hr)).symm
theorem aVk (h:Rv f d v M V)(ho:bB m M.length=true)(hx:dA f d v V m=(x,0))(h1:1<=ar m.op)(ha:alN M m=true):rkZ M m=(x,true)/\vl m.op m.k m.s (kaL M m)=(x,0):=by
 rw[bF h1] at hx
 have e:vl m.op m.k m.s (kaL M m)=(x,0):=by rw[aRf h ho ha];exact hx
 refine⟨?_,e⟩
 rw[rkZ,if_pos ha,e]
 rfl
theorem aRi (h1:¬1<=ar m.op):(rkZ M m).2=false:=by
 unfold rkZ
 split
 ·have:vl m.op m.k m.s (kaL M m)=(0,1):=by
   unfold vl Spn.bK
   rw[if_neg]
   simp only[Spn.iC,Bool.and_eq_true,decide_eq_true_eq]
   intro h
   exact h1 h.1.1.1
  rw[this];rfl
 ·rfl
theorem aS9 (hx:dA f d v V m=(x,0))(hb:(bnZ f d m).2=true):(bnZ f d m).1=x:=by
 unfold bnZ at *
 split at hb
 ·rename_i hop
  rw[if_pos hop]
  rw[dA,if_neg (by omega),if_pos hop] at hx
  have e:=congrArg Prod.fst hx
  simp only[inpV] at e
  split at hb
  ·rename_i hk;rw[if_pos hk];rw[hk] at e;simpa using e
  ·rename_i hk
   rw[if_neg hk]
   split at hb
   ·rename_i hk;rw[if_pos hk];rw[hk] at e;simpa using e
   ·rename_i hk
    rw[if_neg hk]
    split at hb
    ·rename_i hk;rw[if_pos hk];rw[hk] at e;simpa using e
    ·cases hb
 ·cases hb
theorem aT4 (h:Rv f d v M V)(ho:bB m M.length=true)(hx:dA f d v V m=(x,0))(hk:(knZ f d M m).2=true):(knZ f d M m).1=x:=by
 unfold knZ at *
 split at hk
 ·rename_i hb
  rw[if_pos hb]
  exact aS9 hx hb
 ·rename_i hb
  rw[if_neg hb]
  split at hk
  ·rename_i hr
   rw[if_pos hr]
   by_cases h1:1<=ar m.op
   ·by_cases ha:alN M m=true
    ·rw[(aVk h ho hx h1 ha).1]
    ·rw[rkZ,if_neg ha] at hr;cases hr
   ·rw[aRi h1] at hr;cases hr
  ·rename_i hr
   rw[if_neg hr]
   exact aVw h ho hx hk
theorem aXb (hx:w32 x)(i:Nat):bB (nuI x) i=true:=by
 have e:Spn.wd x=true:=Spn.dE.2 hx
 simp[bB,nuI,rG,rF,nG,Spn.ar,e]
theorem aXc (f d:Int)(v:Wd)(V:List Int)(x:Int):dA f d v V (nuI x)=(x,0):=by simp[dA,nuI]
theorem aQp (h:Rv f d v M V)(hT:St V T M.length)(ho:bB n M.length=true)(hx:dA f d v V n=(x,0))(hw:w32 x) :
  bB (nwI f d M (bW n T)) M.length=true/\dA f d v V (nwI f d M (bW n T))=(x,0) /\
  (nwT f d M (bW n T) M.length=M.length\/(dL (nwT f d M (bW n T) M.length) M.length/\gv V (nwT f d M (bW n T) M.length)=x)):=by
 have ho':=aEw hT ho
 have hx':dA f d v V (bW n T)=(x,0):=by rw[aOc hT ho];exact hx
 unfold nwI nwT
 by_cases hk:(knZ f d M (bW n T)).2=true
 ·rw[if_pos hk,if_pos hk,aT4 h ho' hx' hk]
  exact⟨aXb hw _,aXc ..,.inl rfl⟩
 ·rw[if_neg hk,if_neg hk]
  exact⟨ho',hx',aTo h ho' hx' _⟩
theorem St.snoc (h:St V T k){t:Int}(ht:t=k\/(dL t k/\gv V t=x)):St (V++[x]) (T++[t]) (k+1):=by
 have hl:=h.len
 have hv:=h.vl
 refine⟨by simp[hl],by simp[hv],fun i hi=>?_⟩
 by_cases e:i < k
 ·obtain⟨h1,h2,h3⟩:=h.at' i e
  rw[Cde.cK (by omega)]
  refine⟨h1,h2,?_⟩
  rw[gv,Cde.cK (by omega),Cde.cK (by omega)]
  exact h3
 ·obtain rfl:i=k:=by omega
  rw[show (T++[t]).getD i 0=t by rw[<-hl];exact bJ T t,show (V++[x]).getD i 0=x by rw[<-hv];exact bJ V x]
  rcases ht with rfl|⟨h1,h2⟩
  ·refine⟨by omega,by omega,?_⟩
   rw[gv,Int.toNat_natCast,<-hv];exact bJ V x
  ·refine⟨h1.1,by have:=h1.2;omega,?_⟩
   rw[gv,Cde.cK (by rw[hv];exact h1.2)]
   exact h2
end Go.Proofs.Fld
namespace Go.Proofs.Fld
open Go.RowKit Go.IntWalk Knd
open YtihbhbeaihdgnaaGreat (Wd fD Fits inpV)
open Cde (In i0 dN bY bB dX jW eH jE dA tN oW iR iA nG rG rF nW)
open Vfy (nU aZ aL w32 dZ gP)
variable {d f out:Int} {L:List In} {k:Nat}
def wd0 (f d:Int):Wd:=⟨0,0,0,List.replicate (bL f d).toNat (aW f d)⟩
theorem yP (hm:May f d):Fits f d (wd0 f d):=by
 have e0:fM f d 0=some (0,kJ f-1):=by unfold fM;rw[if_neg (by simpa using hm)];rfl
 have e1:fM f d 1=some (0,kW f-1):=by unfold fM;rw[if_neg (by simpa using hm)];rfl
 have e2:fM f d 2=some (0,3):=by unfold fM;rw[if_neg (by simpa using hm)];rfl
 have hc:1<=kJ f/\1<=kW f:=by unfold kJ kW;constructor <;> split <;> omega
 have hn:0<=bL f d:=by
  unfold bL
  repeat' split
  all_goals omega
 have hb:dR f d<=aW f d/\aW f d<=bH f d:=by
  rcases kQ f d with⟨h,rfl⟩|⟨h,rfl⟩|h
  ·have:=kU (d-1) (by have:=h.2.2;omega)
   obtain⟨a,b,c,-⟩:=zs0 h
   rw[a,b,c];omega
  ·have:=kU (d-1) (by have:=h.2.2;omega)
   obtain⟨a,b,c,-⟩:=zs1 h
   rw[a,b,c];omega
  ·exact absurd hm h
 refine⟨⟨⟨⟨0,kJ f-1,e0,Int.le_refl _,by show (0:Int)<=_;omega⟩,⟨0,kW f-1,e1,Int.le_refl _,by show (0:Int)<=_;omega⟩⟩,⟨0,3,e2,Int.le_refl _,by show (0:Int)<=_;omega⟩⟩,?_,?_⟩
 ·show ((List.replicate (bL f d).toNat (aW f d)).length:Int)=bL f d
  rw[List.length_replicate];omega
 ·intro z hz
  rw[List.eq_of_mem_replicate hz];exact hb
structure Fi (f d:Int)(v:Wd)(L:List In)(k:Nat)(V:List Int):Prop where
 val:oW f d v (L.take k)=(0,V)
 rv:Rv f d v (nV f d (L.take k)).1 V
 st:St V (nV f d (L.take k)).2 k
 new:oW f d v (nV f d (L.take k)).1=(0,V)
theorem aPp {v:Wd}{V:List Int}(h:Fi f d v L k V)(hk:k < L.length)(ho:bB (L.getD k i0) k=true){x:Int}(hx:dA f d v V (L.getD k i0)=(x,0))(hw:w32 x):Fi f d v L (k+1) (V++[x]):=by
 have hl:=(aBh f d L k (by omega)).1
 have hst:=h.st
 rw[show k=(nV f d (L.take k)).1.length from hl.symm] at hst
 obtain⟨h1,h2,h3⟩:=aQp h.rv (n:=L.getD k i0) (by rw[hl];rw[hl] at hst;exact hst) (by rw[hl];exact ho) hx hw
 have e:nV f d (L.take (k+1))=foS f d (nV f d (L.take k)) (L.getD k i0):=by rw[Cde.aH i0 hk,wT]
 refine⟨?_,?_,?_,?_⟩
 ·rw[Cde.aH i0 hk,Cde.eF,h.val,tN,if_pos rfl,hx,if_pos rfl]
 ·rw[e];exact h.rv.snoc h1 h2
 ·rw[e]
  refine h.st.snoc ?_
  rw[hl] at h3
  show nwT f d (nV f d (L.take k)).1 (bW (L.getD k i0) (nV f d (L.take k)).2) ((nV f d (L.take k)).1.length)=_\/_
  rw[hl];exact h3
 ·rw[e]
  show oW f d v ((nV f d (L.take k)).1++[_])=_
  rw[Cde.eF,h.new,tN,if_pos rfl,h2,if_pos rfl]
theorem aBi {f d:Int}{v:Wd}{L:List In}{out:Int}(h:aZ f d L out=0)(hF:Fits f d v):∀ k,k<=L.length->∃ V,Fi f d v L k V
 | 0,_=>⟨[],rfl,Rv.nil f d v,⟨rfl,rfl,fun i hi=>absurd hi (Nat.not_lt_zero _)⟩,rfl⟩
 | k+1,hk=>by
  obtain⟨V,hV⟩:=aBi h hF k (by omega)
  obtain⟨m,ha,⟨S,hS,-,-⟩,-,-,-⟩:=aL h
  obtain⟨hm,-,-,-,-,hok⟩:=Cde.aT m
  obtain⟨V2,S2,g1,g2,g3⟩:=Vfy.rD hm hF hok ha (by rw[hS]) (k+1) hk
  have ho:=Cde.dD hok (show k < L.length by omega)
  rw[Cde.aH i0 (by omega),Cde.eF,hV.val,tN,if_pos rfl] at g1
  have hlV:=hV.st.vl
  by_cases hz:(dA f d v V (L.getD k i0)).2=0
  ·rw[if_pos hz] at g1
   cases g1
   have hw:w32 (dA f d v V (L.getD k i0)).1:=by
    have:=(g3.2 k (by rw[<-g3.1];simp[hlV])).2.2
    rw[show (V++[(dA f d v V (L.getD k i0)).1]).getD k 0=(dA f d v V (L.getD k i0)).1 by rw[<-hlV];exact bJ _ _] at this
    exact this
   exact⟨_,aPp hV (by omega) ho (Prod.ext rfl hz) hw⟩
  ·rw[if_neg hz] at g1
   exact absurd (congrArg Prod.fst g1) hz
theorem aDh (f d:Int)(hk:k < L.length):nV f d (L.take (k+1))=foS f d (nV f d (L.take k)) (L.getD k i0):=by rw[Cde.aH i0 hk,wT]
theorem aWl (h:aZ f d L out=0)(hk:k < L.length):bB (bW (L.getD k i0) (nV f d (L.take k)).2) k=true:=by
 obtain⟨m,-⟩:=aL h
 obtain⟨hm,-,-,-,-,hok⟩:=Cde.aT m
 obtain⟨V,hV⟩:=aBi h (yP hm) k (by omega)
 exact aEw hV.st (Cde.dD hok hk)
theorem aXe (f d:Int)(M:List In)(m:In):(nwI f d M m).op=1\/nwI f d M m=m:=by
 unfold nwI
 split
 ·exact .inl rfl
 ·exact .inr rfl
theorem aHd {f d:Int}{L:List In}(hok:dX L L.length=true):∀ k,k<=L.length->eH (nV f d (L.take k)).1<=eH (L.take k)
 | 0,_=>by simp[nV,eH]
 | k+1,hk=>by
  have ih:=aHd (f:=f) (d:=d) hok k (by omega)
  rw[aDh f d (by omega),Cde.aH i0 (by omega),Cde.gD,foS,Cde.gD]
  have hp:=Vfy.aKx (Cde.dD hok (show k < L.length by omega))
  rcases aXe f d (nV f d (L.take k)).1 (bW (L.getD k i0) (nV f d (L.take k)).2) with e|e
  ·rw[e]
   have:jE 1=1:=rfl
   omega
  ·rw[e]
   have:(bW (L.getD k i0) (nV f d (L.take k)).2).op=(L.getD k i0).op:=rfl
   rw[this]
   omega
theorem aDc (h:aZ f d L out=0):aZ f d (fdL f d L out) (fdO f d L out)=0/\(fdL f d L out).length=L.length/\eH (fdL f d L out)<=eH L /\
  ∀ v,Fits f d v->∃ V,iR f d v L out=(0,V)/\iR f d v (fdL f d L out) (fdO f d L out)=(0,V)/\V.length=L.length/\0<=fdO f d L out/\(fdO f d L out).toNat < L.length/\V.getD (fdO f d L out).toNat 0=V.getD out.toNat 0:=by
 obtain⟨m,ha,⟨S,hS,-,-⟩,-,-,-⟩:=aL h
 obtain⟨hm,-,-,ho0,ho1,hok⟩:=Cde.aT m
 obtain⟨-,-,hH⟩:=Vfy.yN h
 have hlen:=(aBh f d L L.length (Nat.le_refl _)).1
 rw[List.take_length] at hlen
 unfold fdL fdO
 by_cases hn:aZ f d (nV f d L).1 (foO f d L out)=0
 ·rw[if_pos hn,if_pos hn]
  have hc:=aHd (f:=f) (d:=d) hok L.length (Nat.le_refl _)
  rw[List.take_length] at hc
  refine⟨hn,hlen,hc,fun v hF=>?_⟩
  obtain⟨V,hV⟩:=aBi h hF L.length (Nat.le_refl _)
  have h1:=hV.val
  have h2:=hV.new
  have h3:=hV.st
  rw[List.take_length] at h1 h2 h3
  obtain⟨m2,-⟩:=aL hn
  obtain⟨a1,a2,a3⟩:=h3.at' out.toNat (by omega)
  refine⟨V,by rw[iR,if_pos m,if_pos hF];exact h1,by rw[iR,if_pos m2,if_pos hF];exact h2,h3.vl,a1,by show ((nV f d L).2.getD out.toNat 0).toNat < _;omega,a3⟩
 ·rw[if_neg hn,if_neg hn]
  refine⟨h,rfl,Int.le_refl _,fun v hF=>?_⟩
  obtain⟨V,hV,hI⟩:=hH v hF
  obtain⟨V',hV'⟩:=aBi h hF L.length (Nat.le_refl _)
  have h1:=hV'.val
  have h3:=hV'.st.vl
  rw[List.take_length] at h1
  have hV2:=hV
  rw[iR,if_pos m,if_pos hF,h1] at hV
  cases hV
  exact⟨_,hV2,hV2,h3,ho0,by omega,rfl⟩
end Go.Proofs.Fld
