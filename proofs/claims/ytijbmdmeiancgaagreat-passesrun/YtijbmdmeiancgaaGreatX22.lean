import Derived.Test.YtijbmdmeiancgaaGreatXH
import Derived.Test.YtijbmdmeiancgaaGreatX19
import Derived.Test.YtijbmdmeiancgaaGreatX03
set_option maxRecDepth 100000
set_option maxHeartbeats 32000000
set_option linter.unusedVariables false
namespace Go.Proofs.Fld
open Go.RowKit Go.IntWalk Knd
open YtijbmdmeiancgaaGreat (Wd tF Fits inpV)
open Cde (In i0 dP dG bJ eO jG eP lL fB qY rF nG jM kZ oP nI)
open Vfy (nM bL aT w32 eT)
variable {a:Int}
abbrev ar:=Spn.ar
abbrev vl:=Spn.aR
abbrev rg (M:List In)(r:Int):In:=M.getD r.toNat i0
def isN (M:List In)(r k:Int):Bool:=(rg M r).op==1&&(rg M r).k==k
def dK (T:List Int)(r:Int):Int:=if r < 0\/(T.length:Int)<=r then r else T.getD r.toNat 0
def bS (n:In)(T:List Int):In :=
 ⟨n.op,if 0 < ar n.op then dK T n.a else n.a,if 1 < ar n.op then dK T n.b else n.b,if 2 < ar n.op then dK T n.c else n.c,n.k,n.s⟩
def bnZ (f d:Int)(n:In):Int × Bool :=
 if n.op=2 then(if n.k=3 then(dJ f d,true) else if n.k=4 then(bK f d,true) else if n.k=5 then(aV f d,true) else(0,false)) else(0,false)
def vS (M:List In)(n:In):List Int:=(dP n).map fun r=>(rg M r).k
def alN (M:List In)(n:In):Bool:=(dP n).all fun r=>(rg M r).op==1
def xQ (M:List In)(n:In):Int × Bool:=if alN M n=true then((vl n.op n.k n.s (vS M n)).1,(vl n.op n.k n.s (vS M n)).2==0) else(0,false)
def qV (M:List In)(n:In):Int × Bool :=
 if n.op=9\/n.op=17\/n.op=18\/n.op=20\/n.op=23 then(0,n.a==n.b) else
 if n.op=19\/n.op=21\/n.op=22 then(1,n.a==n.b) else
 if n.op=10\/n.op=15 then(0,isN M n.a 0 || isN M n.b 0) else
 if n.op=12 then(0,isN M n.b 1) else
 if n.op=32\/n.op=31 then(0,n.k==0) else(0,false)
def pQ (f d:Int)(M:List In)(n:In):Int × Bool:=if (bnZ f d n).2=true then bnZ f d n else if (xQ M n).2=true then xQ M n else qV M n
def iU (M:List In)(n:In):List (Bool × Int) :=
 if n.op=8\/n.op=17 then[(isN M n.a 0,n.b),(isN M n.b 0,n.a)] else
 if n.op=10 then[(isN M n.a 1,n.b),(isN M n.b 1,n.a)] else
 if n.op=16 then[(n.a==n.b,n.a),(isN M n.a 0,n.b),(isN M n.b 0,n.a)] else
 if n.op=15 then[(n.a==n.b,n.a),(isN M n.a (-1),n.b),(isN M n.b (-1),n.a)] else
 if n.op=24\/n.op=25 then[(n.a==n.b,n.a)] else
 if n.op=9\/n.op=13\/n.op=14 then[(isN M n.b 0,n.a)] else
 if n.op=11 then[(isN M n.b 1,n.a)] else
 if n.op=29\/n.op=30 then[(n.k==0,n.a)] else
 if n.op=32 then[(n.k==1,n.a)] else
 if n.op=5 then[((rg M n.a).op==5,(rg M n.a).a)] else
 if n.op=6 then[((rg M n.a).op==6,n.a)] else
 if n.op=28 then[(isN M n.a 0,n.c),((rg M n.a).op==1,n.b),(n.b==n.c,n.b)] else
 if n.op=27 then[(n.a==n.b || n.a==n.c,n.a),(n.b==n.c,n.b)] else
 if n.op=26 then[(n.b==n.c,n.b)] else[]
def lT (own:Int):List (Bool × Int)->Int
 | []=>own
 | p::L=>if p.1=true then p.2 else lT own L
def jC (x:Int):In:=⟨1,0,0,0,x,0⟩
def nwI (f d:Int)(M:List In)(m:In):In:=if (pQ f d M m).2=true then jC (pQ f d M m).1 else m
def nwT (f d:Int)(M:List In)(m:In)(own:Int):Int:=if (pQ f d M m).2=true then own else lT own (iU M m)
def foS (f d:Int)(s:List In × List Int)(n:In):List In × List Int :=
 (s.1++[nwI f d s.1 (bS n s.2)],s.2++[nwT f d s.1 (bS n s.2) s.1.length])
def gX (f d:Int)(L:List In):List In × List Int:=L.foldl (foS f d) ([],[])
theorem uH (f d:Int)(L:List In)(n:In):gX f d (L++[n])=foS f d (gX f d L) n:=by simp[gX]
theorem qD (f d:Int)(L:List In):∀ k,k<=L.length->(gX f d (L.take k)).1.length=k/\(gX f d (L.take k)).2.length=k
 | 0,_=>by simp[gX]
 | k+1,h=>by
  have ih:=qD f d L k (by omega)
  rw[Cde.aM i0 (by omega),uH,foS]
  simp[ih.1,ih.2]
def foO (f d:Int)(L:List In)(out:Int):Int:=(gX f d L).2.getD out.toNat 0
def zC (f d:Int)(L:List In)(out:Int):List In:=if bL f d (gX f d L).1 (foO f d L out)=0 then(gX f d L).1 else L
def xJ (f d:Int)(L:List In)(out:Int):Int:=if bL f d (gX f d L).1 (foO f d L out)=0 then foO f d L out else out
theorem mD {M Z:List In}{i:Nat}(h:i < M.length):(M++Z).getD i i0=M.getD i i0:=by
 rw[List.getD_eq_getElem?_getD,List.getElem?_append_left h,<-List.getD_eq_getElem?_getD]
theorem kE (M:List In)(n:In):(M++[n]).getD M.length i0=n:=by simp[List.getD_eq_getElem?_getD]
theorem bV (V:List Int)(x:Int):(V++[x]).getD V.length 0=x:=by simp[List.getD_eq_getElem?_getD]
theorem ofI (ha:w32 a):(BitVec.ofInt 64 a).toInt=a:=by
 obtain⟨h1,h2⟩:=ha
 rw[BitVec.toInt_ofInt]
 exact Int.bmod_eq_of_le (by omega) (by omega)
theorem aG3 (ha:w32 a):bits .and .i64 a a=a:=by
 have:=Spn.gJ .and a a
 simp only[Spn.kQ.bv,BitVec.and_self,ofI ha] at this
 exact this
theorem aJc (ha:w32 a):bits .or .i64 a a=a:=by
 have:=Spn.gJ .or a a
 simp only[Spn.kQ.bv,BitVec.or_self,ofI ha] at this
 exact this
theorem aF2 (a:Int):bits .xor .i64 a a=0:=by
 have:=Spn.gJ .xor a a
 simp only[Spn.kQ.bv,BitVec.xor_self] at this
 exact this
theorem xY (a:Int):bits .and .i64 a 0=0:=by
 have:=Spn.gJ .and a 0
 simp only[Spn.kQ.bv,show BitVec.ofInt 64 0=0#64 from rfl,BitVec.and_zero] at this
 exact this
theorem wY (a:Int):bits .and .i64 0 a=0:=by
 have:=Spn.gJ .and 0 a
 simp only[Spn.kQ.bv,show BitVec.ofInt 64 0=0#64 from rfl,BitVec.zero_and] at this
 exact this
theorem aJ1 (ha:w32 a):bits .or .i64 a 0=a:=by
 have:=Spn.gJ .or a 0
 simp only[Spn.kQ.bv,show BitVec.ofInt 64 0=0#64 from rfl,BitVec.or_zero,ofI ha] at this
 exact this
theorem aJl (ha:w32 a):bits .or .i64 0 a=a:=by
 have:=Spn.gJ .or 0 a
 simp only[Spn.kQ.bv,show BitVec.ofInt 64 0=0#64 from rfl,BitVec.zero_or,ofI ha] at this
 exact this
theorem aF8 (ha:w32 a):bits .xor .i64 a 0=a:=by
 have:=Spn.gJ .xor a 0
 simp only[Spn.kQ.bv,show BitVec.ofInt 64 0=0#64 from rfl,BitVec.xor_zero,ofI ha] at this
 exact this
theorem aGz (ha:w32 a):bits .xor .i64 0 a=a:=by
 have:=Spn.gJ .xor 0 a
 simp only[Spn.kQ.bv,show BitVec.ofInt 64 0=0#64 from rfl,BitVec.zero_xor,ofI ha] at this
 exact this
theorem aGa (ha:w32 a):bits .and .i64 a (-1)=a:=by
 have:=Spn.gJ .and a (-1)
 simp only[Spn.kQ.bv,show BitVec.ofInt 64 (-1)=BitVec.allOnes 64 from rfl,BitVec.and_allOnes,ofI ha] at this
 exact this
theorem yA (ha:w32 a):bits .and .i64 (-1) a=a:=by
 have:=Spn.gJ .and (-1) a
 simp only[Spn.kQ.bv,show BitVec.ofInt 64 (-1)=BitVec.allOnes 64 from rfl,BitVec.allOnes_and,ofI ha] at this
 exact this
theorem vW {op k s x:Int}{xs:List Int}(h:vl op k s xs=(x,0)):(∀ z ∈ xs,w32 z)/\Spn.ex op k s (xs.getD 0 0) (xs.getD 1 0) (xs.getD 2 0)=(x,0)/\w32 x/\1<=ar op:=by
 have hw:=Vfy.aEq h
 unfold vl Spn.aR at h
 split at h
 ·rename_i hm
  simp only[Spn.fG,Bool.and_eq_true,decide_eq_true_eq,List.all_eq_true] at hm
  refine⟨fun z hz=>Spn.bE.1 (hm.2 z hz),?_,hw,hm.1.1.1⟩
  split at h
  ·rename_i h0
   split at h
   ·cases h
    exact Prod.ext rfl h0
   ·cases h
  ·rename_i h0
   exact absurd (congrArg Prod.snd h) h0
 ·cases h
theorem aCj {r:Int}{u:Bool}{i j:Int}(h:nI r u i=true)(hj:i<=j):nI r u j=true:=by
 unfold nI at *
 cases u
 ·exact h
 ·simp only[if_true,Spn.aP] at *
  omega
theorem aPq {n:In}{i j:Nat}(h:bJ n i=true)(hj:i<=j):bJ n j=true:=by
 simp only[bJ,oP,Bool.and_eq_true] at *
 obtain⟨⟨h1,⟨h2,h3⟩,h4⟩,h5⟩:=h
 have e:(i:Int)<=j:=by omega
 exact⟨⟨h1,⟨aCj h2 e,aCj h3 e⟩,aCj h4 e⟩,h5⟩
structure Rv (f d:Int)(v:Wd)(M:List In)(V:List Int):Prop where
 len:V.length=M.length
 ok:∀ i,i < M.length->bJ (M.getD i i0) i=true
 val:∀ i,i < M.length->fB f d v V (M.getD i i0)=(V.getD i 0,0)
theorem Rv.nil (f d:Int)(v:Wd):Rv f d v [] []:=⟨rfl,fun i h=>by simp at h,fun i h=>by simp at h⟩
theorem Rv.snoc {f d:Int}{v:Wd}{M:List In}{V:List Int}{n:In}{x:Int}(h:Rv f d v M V)(ho:bJ n M.length=true)(hx:fB f d v V n=(x,0)):Rv f d v (M++[n]) (V++[x]):=by
 have hl:=h.len
 refine⟨by simp[hl],fun i hi=>?_,fun i hi=>?_⟩
 ·simp only[List.length_append,List.length_cons,List.length_nil] at hi
  by_cases e:i < M.length
  ·rw[mD e];exact h.ok i e
  ·obtain rfl:i=M.length:=by omega
   rw[kE];exact ho
 ·simp only[List.length_append,List.length_cons,List.length_nil] at hi
  by_cases e:i < M.length
  ·rw[mD e,Cde.yY (aPq (h.ok i e) (by omega)),h.val i e,Cde.gP (by omega)]
  ·obtain rfl:i=M.length:=by omega
   rw[kE,Cde.yY (by rw[hl];exact ho),hx,<-hl,bV]
end Go.Proofs.Fld
namespace Go.Proofs.Fld
open Go.RowKit Go.IntWalk Knd
open YtijbmdmeiancgaaGreat (Wd tF Fits inpV)
open Cde (In i0 dP dG bJ eO jG eP lL fB qY rF nG jM kZ oP nI)
open Vfy (nM bL aT w32 eT)
variable {m n:In} {d f op r s x z:Int} {v:Wd} {M:List In} {T V:List Int} {k:Nat}
def gv (V:List Int)(r:Int):Int:=V.getD r.toNat 0
theorem sG (h:ar n.op=1):dP n=[n.a]:=by unfold dP dG;rw[show Spn.ar n.op=1 from h];rfl
theorem fA (h:ar n.op=2):dP n=[n.a,n.b]:=by unfold dP dG;rw[show Spn.ar n.op=2 from h];rfl
theorem kW (h:ar n.op=3):dP n=[n.a,n.b,n.c]:=by unfold dP dG;rw[show Spn.ar n.op=3 from h];rfl
theorem xR (h:ar n.op=1)(V:List Int):jM V n=[gv V n.a]:=by unfold jM;rw[sG h];rfl
theorem qW (h:ar n.op=2)(V:List Int):jM V n=[gv V n.a,gv V n.b]:=by unfold jM;rw[fA h];rfl
theorem av3 (h:ar n.op=3)(V:List Int):jM V n=[gv V n.a,gv V n.b,gv V n.c]:=by unfold jM;rw[kW h];rfl
def bO (r:Int)(i:Nat):Prop:=0<=r/\r.toNat < i
theorem jR {i:Nat}(h:bJ n i=true)(hr:r ∈ dP n):bO r i:=Vfy.mP h hr
theorem Rv.reg (h:Rv f d v M V)(hr:bO r M.length):bJ (rg M r) r.toNat=true/\fB f d v V (rg M r)=(gv V r,0):=⟨h.ok _ hr.2,h.val _ hr.2⟩
theorem Rv.num (h:Rv f d v M V)(hr:bO r M.length)(ho:(rg M r).op=1):gv V r=(rg M r).k:=by
 have:=(h.reg hr).2
 rw[fB,if_pos ho] at this
 exact(congrArg Prod.fst this).symm
theorem Rv.isN {f d:Int}{v:Wd}{M:List In}{V:List Int}(h:Rv f d v M V){r k:Int}(hr:bO r M.length)(ho:isN M r k=true):gv V r=k:=by
 simp only[Fld.isN,Bool.and_eq_true,beq_iff_eq] at ho
 rw[h.num hr ho.1,ho.2]
theorem bT (h:1<=ar n.op):fB f d v V n=vl n.op n.k n.s (jM V n):=by
 have h1:n.op≠1:=fun e=>by rw[e] at h;exact absurd h (by decide)
 have h2:n.op≠2:=fun e=>by rw[e] at h;exact absurd h (by decide)
 have h3:n.op≠3:=fun e=>by rw[e] at h;exact absurd h (by decide)
 rw[fB,if_neg h1,if_neg h2,if_neg h3]
theorem Rv.neg (h:Rv f d v M V)(hr:bO r M.length)(ho:(rg M r).op=5):bO (rg M r).a M.length/\gv V r=- gv V (rg M r).a:=by
 obtain⟨h1,h2⟩:=h.reg hr
 have ha:ar (rg M r).op=1:=by rw[ho];decide
 have hin:=jR h1 (r:=(rg M r).a) (by rw[sG ha];simp)
 refine⟨⟨hin.1,Nat.lt_trans hin.2 hr.2⟩,?_⟩
 rw[bT (by omega),xR ha] at h2
 obtain⟨-,e,-⟩:=vW h2
 rw[ho] at e
 simp[Spn.ex] at e
 exact e.symm
theorem Rv.abs (h:Rv f d v M V)(hr:bO r M.length)(ho:(rg M r).op=6):0<=gv V r:=by
 obtain⟨h1,h2⟩:=h.reg hr
 have ha:ar (rg M r).op=1:=by rw[ho];decide
 rw[bT (by omega),xR ha] at h2
 obtain⟨-,e,-⟩:=vW h2
 rw[ho] at e
 simp[Spn.ex] at e
 have e':max (gv V (rg M r).a) (-gv V (rg M r).a)=gv V r:=e
 omega
theorem fU {k y:Int}(h:vl op k s [x,y]=(z,0)):w32 x/\w32 y/\Spn.ex op k s x y 0=(z,0):=by
 obtain⟨h1,h2,-⟩:=vW h
 exact⟨h1 x (by simp),h1 y (by simp),h2⟩
theorem lJ {k:Int}(h:vl op k s [x]=(z,0)):w32 x/\Spn.ex op k s x 0 0=(z,0):=by
 obtain⟨h1,h2,-⟩:=vW h
 exact⟨h1 x (by simp),h2⟩
theorem uY {k y u:Int}(h:vl op k s [x,y,u]=(z,0)):w32 x/\w32 y/\w32 u/\Spn.ex op k s x y u=(z,0):=by
 obtain⟨h1,h2,-⟩:=vW h
 exact⟨h1 x (by simp),h1 y (by simp),h1 u (by simp),h2⟩
theorem aOk (h:Rv f d v M V)(ho:bJ m M.length=true)(hx:fB f d v V m=(x,0))(hs:(qV M m).2=true):(qV M m).1=x:=by
 have hin:=fun r=>jR ho (r:=r)
 unfold qV at hs ⊢
 split at hs
 ·rename_i hop
  rw[if_pos hop]
  have ha:ar m.op=2:=by rcases hop with e|e|e|e|e <;> rw[e] <;> decide
  rw[bT (by omega),qW ha] at hx
  obtain⟨-,-,e⟩:=fU hx
  have hab:m.a=m.b:=by simpa using hs
  rw[hab] at e
  generalize gv V m.b=y at e
  rcases hop with q|q|q|q|q <;> rw[q] at e <;> simp[Spn.ex,Spn.tr,aF2] at e <;> omega
 rename_i h1
 rw[if_neg h1]
 split at hs
 ·rename_i hop
  rw[if_pos hop]
  have ha:ar m.op=2:=by rcases hop with e|e|e <;> rw[e] <;> decide
  rw[bT (by omega),qW ha] at hx
  obtain⟨-,-,e⟩:=fU hx
  have hab:m.a=m.b:=by simpa using hs
  rw[hab] at e
  generalize gv V m.b=y at e
  rcases hop with q|q|q <;> rw[q] at e <;> simp[Spn.ex,Spn.tr] at e <;> omega
 rename_i h2
 rw[if_neg h2]
 split at hs
 ·rename_i hop
  rw[if_pos hop]
  have ha:ar m.op=2:=by rcases hop with e|e <;> rw[e] <;> decide
  have ia:=hin m.a (by rw[fA ha];simp)
  have ib:=hin m.b (by rw[fA ha];simp)
  rw[bT (by omega),qW ha] at hx
  obtain⟨-,-,e⟩:=fU hx
  simp only[Bool.or_eq_true] at hs
  rcases hs with hs|hs
  ·rw[h.isN ia hs] at e
   rcases hop with q|q <;> rw[q] at e <;> simp[Spn.ex,wY] at e <;> omega
  ·rw[h.isN ib hs] at e
   rcases hop with q|q <;> rw[q] at e <;> simp[Spn.ex,xY] at e <;> omega
 rename_i h3
 rw[if_neg h3]
 split at hs
 ·rename_i hop
  rw[if_pos hop]
  have ha:ar m.op=2:=by rw[hop];decide
  have ib:=hin m.b (by rw[fA ha];simp)
  rw[bT (by omega),qW ha] at hx
  obtain⟨-,-,e⟩:=fU hx
  rw[h.isN ib hs,hop] at e
  simp[Spn.ex,Int.tmod_one] at e
  omega
 rename_i h4
 rw[if_neg h4]
 split at hs
 ·rename_i hop
  rw[if_pos hop]
  have ha:ar m.op=1:=by rcases hop with e|e <;> rw[e] <;> decide
  rw[bT (by omega),xR ha] at hx
  obtain⟨-,e⟩:=lJ hx
  have hk:m.k=0:=by simpa using hs
  rw[hk] at e
  rcases hop with q|q <;> rw[q] at e <;> simp[Spn.ex,xY] at e <;> omega
 ·cases hs
theorem aPo (h28:m.op≠28)(h:Rv f d v M V)(ho:bJ m M.length=true)(hx:fB f d v V m=(x,0)) :
  ∀ p ∈ iU M m,p.1=true->bO p.2 M.length/\gv V p.2=x:=by
 have hin:=fun r=>jR ho (r:=r)
 unfold iU
 by_cases hop:m.op=8\/m.op=17
 ·rw[if_pos hop]
  have ha:ar m.op=2:=by rcases hop with e|e <;> rw[e] <;> decide
  have ia:=hin m.a (by rw[fA ha];simp)
  have ib:=hin m.b (by rw[fA ha];simp)
  rw[bT (by omega),qW ha] at hx
  obtain⟨w1,w2,e⟩:=fU hx
  intro p hp hs
  simp only[List.mem_cons,List.not_mem_nil,or_false] at hp
  rcases hp with rfl|rfl
  ·refine⟨ib,?_⟩
   rw[h.isN ia hs] at e
   rcases hop with q|q <;> rw[q] at e <;> simp[Spn.ex,aGz w2] at e <;> exact e
  ·refine⟨ia,?_⟩
   rw[h.isN ib hs] at e
   rcases hop with q|q <;> rw[q] at e <;> simp[Spn.ex,aF8 w1] at e <;> exact e
 rw[if_neg hop]
 clear hop
 by_cases hop:m.op=10
 ·rw[if_pos hop]
  have ha:ar m.op=2:=by rw[hop];decide
  have ia:=hin m.a (by rw[fA ha];simp)
  have ib:=hin m.b (by rw[fA ha];simp)
  rw[bT (by omega),qW ha] at hx
  obtain⟨w1,w2,e⟩:=fU hx
  intro p hp hs
  simp only[List.mem_cons,List.not_mem_nil,or_false] at hp
  rcases hp with rfl|rfl
  ·refine⟨ib,?_⟩
   rw[h.isN ia hs,hop] at e
   simp[Spn.ex] at e
   exact e
  ·refine⟨ia,?_⟩
   rw[h.isN ib hs,hop] at e
   simp[Spn.ex] at e
   exact e
 rw[if_neg hop]
 clear hop
 by_cases hop:m.op=16
 ·rw[if_pos hop]
  have ha:ar m.op=2:=by rw[hop];decide
  have ia:=hin m.a (by rw[fA ha];simp)
  have ib:=hin m.b (by rw[fA ha];simp)
  rw[bT (by omega),qW ha,hop] at hx
  obtain⟨w1,w2,e⟩:=fU hx
  intro p hp hs
  simp only[List.mem_cons,List.not_mem_nil,or_false] at hp
  rcases hp with rfl|rfl|rfl
  ·refine⟨ia,?_⟩
   have hab:m.a=m.b:=by simpa using hs
   rw[<-hab] at e
   simp[Spn.ex,aJc w1] at e
   exact e
  ·refine⟨ib,?_⟩
   rw[h.isN ia hs] at e
   simp[Spn.ex,aJl w2] at e
   exact e
  ·refine⟨ia,?_⟩
   rw[h.isN ib hs] at e
   simp[Spn.ex,aJ1 w1] at e
   exact e
 rw[if_neg hop]
 clear hop
 by_cases hop:m.op=15
 ·rw[if_pos hop]
  have ha:ar m.op=2:=by rw[hop];decide
  have ia:=hin m.a (by rw[fA ha];simp)
  have ib:=hin m.b (by rw[fA ha];simp)
  rw[bT (by omega),qW ha,hop] at hx
  obtain⟨w1,w2,e⟩:=fU hx
  intro p hp hs
  simp only[List.mem_cons,List.not_mem_nil,or_false] at hp
  rcases hp with rfl|rfl|rfl
  ·refine⟨ia,?_⟩
   have hab:m.a=m.b:=by simpa using hs
   rw[<-hab] at e
   simp[Spn.ex,aG3 w1] at e
   exact e
  ·refine⟨ib,?_⟩
   rw[h.isN ia hs] at e
   simp[Spn.ex,yA w2] at e
   exact e
  ·refine⟨ia,?_⟩
   rw[h.isN ib hs] at e
   simp[Spn.ex,aGa w1] at e
   exact e
 rw[if_neg hop]
 clear hop
 by_cases hop:m.op=24\/m.op=25
 ·rw[if_pos hop]
  have ha:ar m.op=2:=by rcases hop with e|e <;> rw[e] <;> decide
  have ia:=hin m.a (by rw[fA ha];simp)
  rw[bT (by omega),qW ha] at hx
  obtain⟨w1,w2,e⟩:=fU hx
  intro p hp hs
  simp only[List.mem_cons,List.not_mem_nil,or_false] at hp
  subst hp
  refine⟨ia,?_⟩
  have hab:m.a=m.b:=by simpa using hs
  rw[<-hab] at e
  rcases hop with q|q <;> rw[q] at e <;> simp[Spn.ex] at e <;> exact e
 rw[if_neg hop]
 clear hop
 by_cases hop:m.op=9\/m.op=13\/m.op=14
 ·rw[if_pos hop]
  have ha:ar m.op=2:=by rcases hop with e|e|e <;> rw[e] <;> decide
  have ia:=hin m.a (by rw[fA ha];simp)
  have ib:=hin m.b (by rw[fA ha];simp)
  rw[bT (by omega),qW ha] at hx
  obtain⟨w1,w2,e⟩:=fU hx
  intro p hp hs
  simp only[List.mem_cons,List.not_mem_nil,or_false] at hp
  subst hp
  refine⟨ia,?_⟩
  rw[h.isN ib hs] at e
  rcases hop with q|q|q <;> rw[q] at e <;> simp[Spn.ex,Spn.dW] at e <;> exact e
 rw[if_neg hop]
 clear hop
 by_cases hop:m.op=11
 ·rw[if_pos hop]
  have ha:ar m.op=2:=by rw[hop];decide
  have ia:=hin m.a (by rw[fA ha];simp)
  have ib:=hin m.b (by rw[fA ha];simp)
  rw[bT (by omega),qW ha,hop] at hx
  obtain⟨w1,w2,e⟩:=fU hx
  intro p hp hs
  simp only[List.mem_cons,List.not_mem_nil,or_false] at hp
  subst hp
  refine⟨ia,?_⟩
  rw[h.isN ib hs] at e
  simp[Spn.ex,Int.tdiv_one] at e
  exact e
 rw[if_neg hop]
 clear hop
 by_cases hop:m.op=29\/m.op=30
 ·rw[if_pos hop]
  have ha:ar m.op=1:=by rcases hop with e|e <;> rw[e] <;> decide
  have ia:=hin m.a (by rw[sG ha];simp)
  rw[bT (by omega),xR ha] at hx
  obtain⟨w1,e⟩:=lJ hx
  intro p hp hs
  simp only[List.mem_cons,List.not_mem_nil,or_false] at hp
  subst hp
  refine⟨ia,?_⟩
  have hk:m.k=0:=by simpa using hs
  rw[hk] at e
  rcases hop with q|q <;> rw[q] at e <;> simp[Spn.ex] at e <;> exact e
 rw[if_neg hop]
 clear hop
 by_cases hop:m.op=32
 ·rw[if_pos hop]
  have ha:ar m.op=1:=by rw[hop];decide
  have ia:=hin m.a (by rw[sG ha];simp)
  rw[bT (by omega),xR ha,hop] at hx
  obtain⟨w1,e⟩:=lJ hx
  intro p hp hs
  simp only[List.mem_cons,List.not_mem_nil,or_false] at hp
  subst hp
  refine⟨ia,?_⟩
  have hk:m.k=1:=by simpa using hs
  rw[hk] at e
  simp[Spn.ex] at e
  exact e
 rw[if_neg hop]
 clear hop
 by_cases hop:m.op=5
 ·rw[if_pos hop]
  have ha:ar m.op=1:=by rw[hop];decide
  have ia:=hin m.a (by rw[sG ha];simp)
  rw[bT (by omega),xR ha,hop] at hx
  obtain⟨w1,e⟩:=lJ hx
  intro p hp hs
  simp only[List.mem_cons,List.not_mem_nil,or_false] at hp
  subst hp
  obtain⟨i2,e2⟩:=h.neg ia (by simpa using hs)
  refine⟨i2,?_⟩
  rw[e2] at e
  simp[Spn.ex] at e
  exact e
 rw[if_neg hop]
 clear hop
 by_cases hop:m.op=6
 ·rw[if_pos hop]
  have ha:ar m.op=1:=by rw[hop];decide
  have ia:=hin m.a (by rw[sG ha];simp)
  rw[bT (by omega),xR ha,hop] at hx
  obtain⟨w1,e⟩:=lJ hx
  intro p hp hs
  simp only[List.mem_cons,List.not_mem_nil,or_false] at hp
  subst hp
  have e2:=h.abs ia (by simpa using hs)
  refine⟨ia,?_⟩
  have e3:=congrArg Prod.fst e
  simp only[Spn.ex] at e3
  change max (gv V m.a) (-gv V m.a)=x at e3
  show gv V m.a=x
  omega
 rw[if_neg hop]
 clear hop
 by_cases hop:m.op=28
 ·rw[if_pos hop]
  exact absurd hop h28
 rw[if_neg hop]
 clear hop
 by_cases hop:m.op=27
 ·rw[if_pos hop]
  have ha:ar m.op=3:=by rw[hop];decide
  have ia:=hin m.a (by rw[kW ha];simp)
  have ib:=hin m.b (by rw[kW ha];simp)
  rw[bT (by omega),av3 ha,hop] at hx
  obtain⟨w1,w2,w3,e⟩:=uY hx
  have e3:max (min (gv V m.a) (gv V m.b)) (min (max (gv V m.a) (gv V m.b)) (gv V m.c))=x:=by
   have:=congrArg Prod.fst e
   simpa [Spn.ex] using this
  intro p hp hs
  simp only[List.mem_cons,List.not_mem_nil,or_false] at hp
  rcases hp with rfl|rfl
  ·refine⟨ia,?_⟩
   show gv V m.a=x
   simp only[Bool.or_eq_true,beq_iff_eq] at hs
   rcases hs with hs|hs
   ·rw[<-hs] at e3;omega
   ·rw[<-hs] at e3;omega
  ·refine⟨ib,?_⟩
   show gv V m.b=x
   simp only[beq_iff_eq] at hs
   rw[<-hs] at e3;omega
 rw[if_neg hop]
 clear hop
 by_cases hop:m.op=26
 ·rw[if_pos hop]
  have ha:ar m.op=3:=by rw[hop];decide
  have ib:=hin m.b (by rw[kW ha];simp)
  rw[bT (by omega),av3 ha,hop] at hx
  obtain⟨w1,w2,w3,e⟩:=uY hx
  have e3:min (gv V m.c) (max (gv V m.a) (gv V m.b))=x:=by
   have:=congrArg Prod.fst e
   simpa [Spn.ex] using this
  intro p hp hs
  simp only[List.mem_cons,List.not_mem_nil,or_false] at hp
  subst hp
  refine⟨ib,?_⟩
  show gv V m.b=x
  simp only[beq_iff_eq] at hs
  rw[<-hs] at e3;omega
 ·rw[if_neg hop]
  intro p hp
  cases hp
theorem aKb (own:Int):∀ L:List (Bool × Int),lT own L=own\/∃ p ∈ L,p.1=true/\lT own L=p.2
 | []=>.inl rfl
 | p::L=>by
  unfold lT
  split
  ·rename_i hp
   exact .inr ⟨p,by simp,hp,rfl⟩
  ·rcases aKb own L with h|⟨q,h1,h2,h3⟩
   ·exact .inl h
   ·exact .inr ⟨q,by simp[h1],h2,h3⟩
theorem aIc (h:Rv f d v M V)(ho:bJ m M.length=true)(hx:fB f d v V m=(x,0))(own:Int) :
  lT own (iU M m)=own\/(bO (lT own (iU M m)) M.length/\gv V (lT own (iU M m))=x):=by
 by_cases hop:m.op=28
 ·have hin:=fun r=>jR ho (r:=r)
  have ha:ar m.op=3:=by rw[hop];decide
  have ia:=hin m.a (by rw[kW ha];simp)
  have ib:=hin m.b (by rw[kW ha];simp)
  have ic:=hin m.c (by rw[kW ha];simp)
  rw[bT (by omega),av3 ha,hop] at hx
  obtain⟨w1,w2,w3,e⟩:=uY hx
  have e3:(if gv V m.a=0 then gv V m.c else gv V m.b)=x:=by
   have:=congrArg Prod.fst e
   simpa [Spn.ex] using this
  have el:iU M m=[(isN M m.a 0,m.c),((rg M m.a).op==1,m.b),(m.b==m.c,m.b)]:=by unfold iU;rw[hop];simp
  rw[el]
  simp only[lT]
  by_cases h1:isN M m.a 0=true
  ·rw[if_pos h1]
   rw[h.isN ia h1,if_pos rfl] at e3
   exact .inr ⟨ic,e3⟩
  rw[if_neg h1]
  by_cases h2:((rg M m.a).op==1)=true
  ·rw[if_pos h2]
   refine .inr ⟨ib,?_⟩
   have hn:=h.num ia (by simpa using h2)
   have h0:gv V m.a≠0:=by
    intro h0
    apply h1
    simp only[Fld.isN,Bool.and_eq_true]
    refine⟨h2,?_⟩
    rw[hn] at h0
    simpa using h0
   rw[if_neg h0] at e3
   exact e3
  rw[if_neg h2]
  by_cases h3:(m.b==m.c)=true
  ·rw[if_pos h3]
   refine .inr ⟨ib,?_⟩
   have hbc:m.b=m.c:=by simpa using h3
   rw[<-hbc] at e3
   split at e3 <;> exact e3
  ·rw[if_neg h3]
   exact .inl rfl
 ·rcases aKb own (iU M m) with e|⟨p,h1,h2,h3⟩
  ·exact .inl e
  ·right
   rw[h3]
   exact aPo hop h ho hx p h1 h2
structure St (V:List Int)(T:List Int)(k:Nat):Prop where
 len:T.length=k
 vl:V.length=k
 at':∀ i,i < k->0<=T.getD i 0/\(T.getD i 0).toNat<=i/\gv V (T.getD i 0)=V.getD i 0
theorem St.ex (h:St V T k)(hr:bO r k):bO (dK T r) k/\gv V (dK T r)=gv V r:=by
 obtain⟨h1,h2,h3⟩:=h.at' r.toNat hr.2
 have e:dK T r=T.getD r.toNat 0:=by
  unfold dK
  rw[if_neg]
  have:=h.len
  have:=hr.1
  have:=hr.2
  omega
 rw[e]
 exact⟨⟨h1,by have:=hr.2;omega⟩,h3⟩
theorem iE {u:Bool}{i:Nat}:nI r u i=true↔(u=true->bO r i)/\(u=false->r=0):=by
 unfold nI bO
 cases u
 ·simp
 ·simp only[if_true,Spn.aP]
  constructor
  ·intro h;exact⟨fun _=>by omega,fun h=>by cases h⟩
  ·intro h;have:=h.1 trivial;omega
theorem vT (h:St V T k)(ho:bJ n k=true):bJ (bS n T) k=true:=by
 have hc:=Cde.nV ho
 have ha:=Cde.vI ho
 simp only[bJ,oP,Bool.and_eq_true,iE] at ho
 obtain⟨⟨-,⟨⟨a1,a2⟩,b1,b2⟩,c1,c2⟩,-⟩:=ho
 simp only[decide_eq_true_eq,decide_eq_false_iff_not] at a1 a2 b1 b2 c1 c2
 have hc':kZ (bS n T)=true:=hc
 simp only[bJ,oP,Bool.and_eq_true,iE,hc',decide_eq_true_eq,decide_eq_false_iff_not]
 refine⟨⟨ha,⟨⟨fun u=>?_,fun u=>?_⟩,fun u=>?_,fun u=>?_⟩,fun u=>?_,fun u=>?_⟩,trivial⟩
 ·show bO (if 0 < ar n.op then dK T n.a else n.a) k
  rw[if_pos (show 0 < ar n.op from u)];exact(h.ex (a1 u)).1
 ·show (if 0 < ar n.op then dK T n.a else n.a)=0
  rw[if_neg (show ¬0 < ar n.op from u)];exact a2 u
 ·show bO (if 1 < ar n.op then dK T n.b else n.b) k
  rw[if_pos (show 1 < ar n.op from u)];exact(h.ex (b1 u)).1
 ·show (if 1 < ar n.op then dK T n.b else n.b)=0
  rw[if_neg (show ¬1 < ar n.op from u)];exact b2 u
 ·show bO (if 2 < ar n.op then dK T n.c else n.c) k
  rw[if_pos (show 2 < ar n.op from u)];exact(h.ex (c1 u)).1
 ·show (if 2 < ar n.op then dK T n.c else n.c)=0
  rw[if_neg (show ¬2 < ar n.op from u)];exact c2 u
theorem aO3 (h:St V T k)(ho:bJ n k=true):jM V (bS n T)=jM V n:=by
 have hin:=fun r=>jR ho (r:=r)
 have ha:=Cde.vI ho
 have h3:=Spn.wT n.op
 rcases(show ar n.op=0\/ar n.op=1\/ar n.op=2\/ar n.op=3 by unfold ar;omega) with e|e|e|e
 ·have e1:dP n=[]:=by unfold dP dG;rw[show Spn.ar n.op=0 from e];rfl
  have e2:dP (bS n T)=[]:=by unfold dP dG;rw[show Spn.ar (bS n T).op=0 from e];rfl
  unfold jM;rw[e1,e2]
 ·rw[xR e,xR (n:=bS n T) e]
  have ea:(bS n T).a=dK T n.a:=by show (if 0 < ar n.op then dK T n.a else n.a)=_;rw[if_pos (by omega)]
  rw[ea,(h.ex (hin n.a (by rw[sG e];simp))).2]
 ·rw[qW e,qW (n:=bS n T) e]
  have ea:(bS n T).a=dK T n.a:=by show (if 0 < ar n.op then dK T n.a else n.a)=_;rw[if_pos (by omega)]
  have eb:(bS n T).b=dK T n.b:=by show (if 1 < ar n.op then dK T n.b else n.b)=_;rw[if_pos (by omega)]
  rw[ea,eb,(h.ex (hin n.a (by rw[fA e];simp))).2,(h.ex (hin n.b (by rw[fA e];simp))).2]
 ·rw[av3 e,av3 (n:=bS n T) e]
  have ea:(bS n T).a=dK T n.a:=by show (if 0 < ar n.op then dK T n.a else n.a)=_;rw[if_pos (by omega)]
  have eb:(bS n T).b=dK T n.b:=by show (if 1 < ar n.op then dK T n.b else n.b)=_;rw[if_pos (by omega)]
  have ec:(bS n T).c=dK T n.c:=by show (if 2 < ar n.op then dK T n.c else n.c)=_;rw[if_pos (by omega)]
  rw[ea,eb,ec,(h.ex (hin n.a (by rw[kW e];simp))).2,(h.ex (hin n.b (by rw[kW e];simp))).2,(h.ex (hin n.c (by rw[kW e];simp))).2]
theorem aBj (h:St V T k)(ho:bJ n k=true):fB f d v V (bS n T)=fB f d v V n:=by
 unfold fB
 rw[aO3 h ho]
 rfl
theorem aNh (h:Rv f d v M V)(ho:bJ m M.length=true)(ha:alN M m=true):vS M m=jM V m:=by
 unfold vS jM
 apply List.map_congr_left
 intro r hr
 simp only[alN,List.all_eq_true] at ha
 exact(h.num (jR ho hr) (by simpa using ha r hr)).symm
theorem aH3 (h:Rv f d v M V)(ho:bJ m M.length=true)(hx:fB f d v V m=(x,0))(h1:1<=ar m.op)(ha:alN M m=true):xQ M m=(x,true)/\vl m.op m.k m.s (vS M m)=(x,0):=by
 rw[bT h1] at hx
 have e:vl m.op m.k m.s (vS M m)=(x,0):=by rw[aNh h ho ha];exact hx
 refine⟨?_,e⟩
 rw[xQ,if_pos ha,e]
 rfl
theorem aE5 (h1:¬1<=ar m.op):(xQ M m).2=false:=by
 unfold xQ
 split
 ·have:vl m.op m.k m.s (vS M m)=(0,1):=by
   unfold vl Spn.aR
   rw[if_neg]
   simp only[Spn.fG,Bool.and_eq_true,decide_eq_true_eq]
   intro h
   exact h1 h.1.1.1
  rw[this];rfl
 ·rfl
theorem aOv (hx:fB f d v V m=(x,0))(hb:(bnZ f d m).2=true):(bnZ f d m).1=x:=by
 unfold bnZ at *
 split at hb
 ·rename_i hop
  rw[if_pos hop]
  rw[fB,if_neg (by omega),if_pos hop] at hx
  have e:=congrArg Prod.fst hx
  simp only[inpV] at e
  split at hb
  ·rename_i hk;rw[if_pos hk];rw[hk] at e;simpa using e
  ·rename_i hk
   rw[if_neg hk]
   split at hb
   ·rename_i hk;rw[if_pos hk];rw[hk] at e;simpa using e
   ·rename_i hk
    rw[if_neg hk]
    split at hb
    ·rename_i hk;rw[if_pos hk];rw[hk] at e;simpa using e
    ·cases hb
 ·cases hb
theorem aO9 (h:Rv f d v M V)(ho:bJ m M.length=true)(hx:fB f d v V m=(x,0))(hk:(pQ f d M m).2=true):(pQ f d M m).1=x:=by
 unfold pQ at *
 split at hk
 ·rename_i hb
  rw[if_pos hb]
  exact aOv hx hb
 ·rename_i hb
  rw[if_neg hb]
  split at hk
  ·rename_i hr
   rw[if_pos hr]
   by_cases h1:1<=ar m.op
   ·by_cases ha:alN M m=true
    ·rw[(aH3 h ho hx h1 ha).1]
    ·rw[xQ,if_neg ha] at hr;cases hr
   ·rw[aE5 h1] at hr;cases hr
  ·rename_i hr
   rw[if_neg hr]
   exact aOk h ho hx hk
theorem aRn (hx:w32 x)(i:Nat):bJ (jC x) i=true:=by
 have e:Spn.wd x=true:=Spn.bE.2 hx
 simp[bJ,jC,oP,nI,kZ,Spn.ar,e]
theorem aQw (f d:Int)(v:Wd)(V:List Int)(x:Int):fB f d v V (jC x)=(x,0):=by simp[fB,jC]
theorem aLl (h:Rv f d v M V)(hT:St V T M.length)(ho:bJ n M.length=true)(hx:fB f d v V n=(x,0))(hw:w32 x) :
  bJ (nwI f d M (bS n T)) M.length=true/\fB f d v V (nwI f d M (bS n T))=(x,0) /\
  (nwT f d M (bS n T) M.length=M.length\/(bO (nwT f d M (bS n T) M.length) M.length/\gv V (nwT f d M (bS n T) M.length)=x)):=by
 have ho':=vT hT ho
 have hx':fB f d v V (bS n T)=(x,0):=by rw[aBj hT ho];exact hx
 unfold nwI nwT
 by_cases hk:(pQ f d M (bS n T)).2=true
 ·rw[if_pos hk,if_pos hk,aO9 h ho' hx' hk]
  exact⟨aRn hw _,aQw ..,.inl rfl⟩
 ·rw[if_neg hk,if_neg hk]
  exact⟨ho',hx',aIc h ho' hx' _⟩
theorem St.snoc (h:St V T k){t:Int}(ht:t=k\/(bO t k/\gv V t=x)):St (V++[x]) (T++[t]) (k+1):=by
 have hl:=h.len
 have hv:=h.vl
 refine⟨by simp[hl],by simp[hv],fun i hi=>?_⟩
 by_cases e:i < k
 ·obtain⟨h1,h2,h3⟩:=h.at' i e
  rw[Cde.gP (by omega)]
  refine⟨h1,h2,?_⟩
  rw[gv,Cde.gP (by omega),Cde.gP (by omega)]
  exact h3
 ·obtain rfl:i=k:=by omega
  rw[show (T++[t]).getD i 0=t by rw[<-hl];exact bV T t,show (V++[x]).getD i 0=x by rw[<-hv];exact bV V x]
  rcases ht with rfl|⟨h1,h2⟩
  ·refine⟨by omega,by omega,?_⟩
   rw[gv,Int.toNat_natCast,<-hv];exact bV V x
  ·refine⟨h1.1,by have:=h1.2;omega,?_⟩
   rw[gv,Cde.gP (by rw[hv];exact h1.2)]
   exact h2
end Go.Proofs.Fld
namespace Go.Proofs.Fld
open Go.RowKit Go.IntWalk Knd
open YtijbmdmeiancgaaGreat (Wd tF Fits inpV)
open Cde (In i0 dP dG bJ eO jG eP lL fB qY rF nG jM kZ oP nI jS)
open Vfy (nM bL aT w32 eT gN)
variable {d f out:Int} {L:List In} {k:Nat}
def wd0 (f d:Int):Wd:=⟨0,0,0,List.replicate (eG f d).toNat (aV f d)⟩
theorem kP (hm:May f d):Fits f d (wd0 f d):=by
 have e0:iH f d 0=some (0,lS f-1):=by unfold iH;rw[if_neg (by simpa using hm)];rfl
 have e1:iH f d 1=some (0,lN f-1):=by unfold iH;rw[if_neg (by simpa using hm)];rfl
 have e2:iH f d 2=some (0,3):=by unfold iH;rw[if_neg (by simpa using hm)];rfl
 have hc:1<=lS f/\1<=lN f:=by unfold lS lN;constructor <;> split <;> omega
 have hn:0<=eG f d:=by
  unfold eG
  repeat' split
  all_goals omega
 have hb:dJ f d<=aV f d/\aV f d<=bK f d:=by
  rcases nA f d with⟨h,rfl⟩|⟨h,rfl⟩|h
  ·have:=iW (d-1) (by have:=h.2.2;omega)
   obtain⟨a,b,c,-⟩:=zs0 h
   rw[a,b,c];omega
  ·have:=iW (d-1) (by have:=h.2.2;omega)
   obtain⟨a,b,c,-⟩:=zs1 h
   rw[a,b,c];omega
  ·exact absurd hm h
 refine⟨⟨⟨⟨0,lS f-1,e0,Int.le_refl _,by show (0:Int)<=_;omega⟩,⟨0,lN f-1,e1,Int.le_refl _,by show (0:Int)<=_;omega⟩⟩,⟨0,3,e2,Int.le_refl _,by show (0:Int)<=_;omega⟩⟩,?_,?_⟩
 ·show ((List.replicate (eG f d).toNat (aV f d)).length:Int)=eG f d
  rw[List.length_replicate];omega
 ·intro z hz
  rw[List.eq_of_mem_replicate hz];exact hb
structure Fi (f d:Int)(v:Wd)(L:List In)(k:Nat)(V:List Int):Prop where
 val:rF f d v (L.take k)=(0,V)
 rv:Rv f d v (gX f d (L.take k)).1 V
 st:St V (gX f d (L.take k)).2 k
 new:rF f d v (gX f d (L.take k)).1=(0,V)
theorem aLk {v:Wd}{V:List Int}(h:Fi f d v L k V)(hk:k < L.length)(ho:bJ (L.getD k i0) k=true){x:Int}(hx:fB f d v V (L.getD k i0)=(x,0))(hw:w32 x):Fi f d v L (k+1) (V++[x]):=by
 have hl:=(qD f d L k (by omega)).1
 have hst:=h.st
 rw[show k=(gX f d (L.take k)).1.length from hl.symm] at hst
 obtain⟨h1,h2,h3⟩:=aLl h.rv (n:=L.getD k i0) (by rw[hl];rw[hl] at hst;exact hst) (by rw[hl];exact ho) hx hw
 have e:gX f d (L.take (k+1))=foS f d (gX f d (L.take k)) (L.getD k i0):=by rw[Cde.aM i0 hk,uH]
 refine⟨?_,?_,?_,?_⟩
 ·rw[Cde.aM i0 hk,Cde.fE,h.val,qY,if_pos rfl,hx,if_pos rfl]
 ·rw[e];exact h.rv.snoc h1 h2
 ·rw[e]
  refine h.st.snoc ?_
  rw[hl] at h3
  show nwT f d (gX f d (L.take k)).1 (bS (L.getD k i0) (gX f d (L.take k)).2) ((gX f d (L.take k)).1.length)=_\/_
  rw[hl];exact h3
 ·rw[e]
  show rF f d v ((gX f d (L.take k)).1++[_])=_
  rw[Cde.fE,h.new,qY,if_pos rfl,h2,if_pos rfl]
theorem nS {f d:Int}{v:Wd}{L:List In}{out:Int}(h:bL f d L out=0)(hF:Fits f d v):∀ k,k<=L.length->∃ V,Fi f d v L k V
 | 0,_=>⟨[],rfl,Rv.nil f d v,⟨rfl,rfl,fun i hi=>absurd hi (Nat.not_lt_zero _)⟩,rfl⟩
 | k+1,hk=>by
  obtain⟨V,hV⟩:=nS h hF k (by omega)
  obtain⟨m,ha,⟨S,hS,-,-⟩,-,-,-⟩:=aT h
  obtain⟨hm,-,-,-,-,hok⟩:=Cde.bD m
  obtain⟨V2,S2,g1,g2,g3⟩:=Vfy.wC hm hF hok ha (by rw[hS]) (k+1) hk
  have ho:=Cde.bW hok (show k < L.length by omega)
  rw[Cde.aM i0 (by omega),Cde.fE,hV.val,qY,if_pos rfl] at g1
  have hlV:=hV.st.vl
  by_cases hz:(fB f d v V (L.getD k i0)).2=0
  ·rw[if_pos hz] at g1
   cases g1
   have hw:w32 (fB f d v V (L.getD k i0)).1:=by
    have:=(g3.2 k (by rw[<-g3.1];simp[hlV])).2.2
    rw[show (V++[(fB f d v V (L.getD k i0)).1]).getD k 0=(fB f d v V (L.getD k i0)).1 by rw[<-hlV];exact bV _ _] at this
    exact this
   exact⟨_,aLk hV (by omega) ho (Prod.ext rfl hz) hw⟩
  ·rw[if_neg hz] at g1
   exact absurd (congrArg Prod.fst g1) hz
theorem vO (f d:Int)(hk:k < L.length):gX f d (L.take (k+1))=foS f d (gX f d (L.take k)) (L.getD k i0):=by rw[Cde.aM i0 hk,uH]
theorem aOe (h:bL f d L out=0)(hk:k < L.length):bJ (bS (L.getD k i0) (gX f d (L.take k)).2) k=true:=by
 obtain⟨m,-⟩:=aT h
 obtain⟨hm,-,-,-,-,hok⟩:=Cde.bD m
 obtain⟨V,hV⟩:=nS h (kP hm) k (by omega)
 exact vT hV.st (Cde.bW hok hk)
theorem aIj (h:bL f d L out=0)(hk:k < L.length)(h1:1<=ar (L.getD k i0).op)(ha:alN (gX f d (L.take k)).1 (bS (L.getD k i0) (gX f d (L.take k)).2)=true) :
  ∃ x,xQ (gX f d (L.take k)).1 (bS (L.getD k i0) (gX f d (L.take k)).2)=(x,true)/\vl (L.getD k i0).op (L.getD k i0).k (L.getD k i0).s (vS (gX f d (L.take k)).1 (bS (L.getD k i0) (gX f d (L.take k)).2))=(x,0):=by
 obtain⟨m,ha2,⟨S,hS,-,-⟩,-,-,-⟩:=aT h
 obtain⟨hm,-,-,-,-,hok⟩:=Cde.bD m
 obtain⟨V,hV⟩:=nS h (kP hm) k (by omega)
 obtain⟨V2,hV2⟩:=nS h (kP hm) (k+1) (by omega)
 have ho:=Cde.bW hok hk
 have hl:=(qD f d L k (by omega)).1
 have e:=hV2.val
 rw[Cde.aM i0 hk,Cde.fE,hV.val,qY,if_pos rfl] at e
 by_cases hz:(fB f d (wd0 f d) V (L.getD k i0)).2=0
 ·have hx:fB f d (wd0 f d) V (bS (L.getD k i0) (gX f d (L.take k)).2)=((fB f d (wd0 f d) V (L.getD k i0)).1,0):=by
   rw[aBj hV.st ho];exact Prod.ext rfl hz
  exact⟨_,aH3 hV.rv (by rw[hl];exact vT hV.st ho) hx h1 ha⟩
 ·rw[if_neg hz] at e
  exact absurd (congrArg Prod.fst e) hz
theorem aQ7 (f d:Int)(M:List In)(m:In):(nwI f d M m).op=1\/nwI f d M m=m:=by
 unfold nwI
 split
 ·exact .inl rfl
 ·exact .inr rfl
theorem aFl {f d:Int}{L:List In}(hok:eO L L.length=true):∀ k,k<=L.length->eP (gX f d (L.take k)).1<=eP (L.take k)
 | 0,_=>by simp[gX,eP]
 | k+1,hk=>by
  have ih:=aFl (f:=f) (d:=d) hok k (by omega)
  rw[vO f d (by omega),Cde.aM i0 (by omega),Cde.gL,foS,Cde.gL]
  have hp:=Vfy.aJa (Cde.bW hok (show k < L.length by omega))
  rcases aQ7 f d (gX f d (L.take k)).1 (bS (L.getD k i0) (gX f d (L.take k)).2) with e|e
  ·rw[e]
   have:lL 1=1:=rfl
   omega
  ·rw[e]
   have:(bS (L.getD k i0) (gX f d (L.take k)).2).op=(L.getD k i0).op:=rfl
   rw[this]
   omega
theorem uF (h:bL f d L out=0):bL f d (zC f d L out) (xJ f d L out)=0/\(zC f d L out).length=L.length/\eP (zC f d L out)<=eP L /\
  ∀ v,Fits f d v->∃ V,nG f d v L out=(0,V)/\nG f d v (zC f d L out) (xJ f d L out)=(0,V)/\V.length=L.length/\0<=xJ f d L out/\(xJ f d L out).toNat < L.length/\V.getD (xJ f d L out).toNat 0=V.getD out.toNat 0:=by
 obtain⟨m,ha,⟨S,hS,-,-⟩,-,-,-⟩:=aT h
 obtain⟨hm,-,-,ho0,ho1,hok⟩:=Cde.bD m
 obtain⟨-,-,hH⟩:=Vfy.vH h
 have hlen:=(qD f d L L.length (Nat.le_refl _)).1
 rw[List.take_length] at hlen
 unfold zC xJ
 by_cases hn:bL f d (gX f d L).1 (foO f d L out)=0
 ·rw[if_pos hn,if_pos hn]
  have hc:=aFl (f:=f) (d:=d) hok L.length (Nat.le_refl _)
  rw[List.take_length] at hc
  refine⟨hn,hlen,hc,fun v hF=>?_⟩
  obtain⟨V,hV⟩:=nS h hF L.length (Nat.le_refl _)
  have h1:=hV.val
  have h2:=hV.new
  have h3:=hV.st
  rw[List.take_length] at h1 h2 h3
  obtain⟨m2,-⟩:=aT hn
  obtain⟨a1,a2,a3⟩:=h3.at' out.toNat (by omega)
  refine⟨V,by rw[nG,if_pos m,if_pos hF];exact h1,by rw[nG,if_pos m2,if_pos hF];exact h2,h3.vl,a1,by show ((gX f d L).2.getD out.toNat 0).toNat < _;omega,a3⟩
 ·rw[if_neg hn,if_neg hn]
  refine⟨h,rfl,Int.le_refl _,fun v hF=>?_⟩
  obtain⟨V,hV,hI⟩:=hH v hF
  obtain⟨V',hV'⟩:=nS h hF L.length (Nat.le_refl _)
  have h1:=hV'.val
  have h3:=hV'.st.vl
  rw[List.take_length] at h1
  have hV2:=hV
  rw[nG,if_pos m,if_pos hF,h1] at hV
  cases hV
  exact⟨_,hV2,hV2,h3,ho0,by omega,rfl⟩
end Go.Proofs.Fld
