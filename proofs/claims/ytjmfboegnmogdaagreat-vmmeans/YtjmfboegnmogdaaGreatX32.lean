import Derived.Test.YtjmfboegnmogdaaGreatXH
import Derived.Test.YtjmfboegnmogdaaGreatX29
import Derived.Test.YtjmfboegnmogdaaGreatX14
set_option maxRecDepth 100000
set_option maxHeartbeats 32000000
set_option linter.unusedVariables false
namespace Go.Proofs.Fld
open Go.RowKit Go.IntWalk Knd
open YtjmfboegnmogdaaGreat (Wd gM Fits inpV)
open Cde (In i0 dL dE bC dN jS dV iU dU tL oD iG iE nJ rM rJ)
open Vfy (nY bB aM w32 eD)
variable {a:Int}
abbrev ar:=Spn.ar
abbrev vl:=Spn.bE
abbrev rg (M:List In)(r:Int):In:=M.getD r.toNat i0
def isN (M:List In)(r k:Int):Bool:=(rg M r).op==1&&(rg M r).k==k
def dA (T:List Int)(r:Int):Int:=if r < 0\/(T.length:Int)<=r then r else T.getD r.toNat 0
def bZ (n:In)(T:List Int):In :=
 ⟨n.op,if 0 < ar n.op then dA T n.a else n.a,if 1 < ar n.op then dA T n.b else n.b,if 2 < ar n.op then dA T n.c else n.c,n.k,n.s⟩
def bnZ (f d:Int)(n:In):Int × Bool :=
 if n.op=2 then(if n.k=3 then(dX f d,true) else if n.k=4 then(bK f d,true) else if n.k=5 then(aX f d,true) else(0,false)) else(0,false)
def kaL (M:List In)(n:In):List Int:=(dL n).map fun r=>(rg M r).k
def alN (M:List In)(n:In):Bool:=(dL n).all fun r=>(rg M r).op==1
def rkZ (M:List In)(n:In):Int × Bool:=if alN M n=true then((vl n.op n.k n.s (kaL M n)).1,(vl n.op n.k n.s (kaL M n)).2==0) else(0,false)
def stZ (M:List In)(n:In):Int × Bool :=
 if n.op=9\/n.op=17\/n.op=18\/n.op=20\/n.op=23 then(0,n.a==n.b) else
 if n.op=19\/n.op=21\/n.op=22 then(1,n.a==n.b) else
 if n.op=10\/n.op=15 then(0,isN M n.a 0 || isN M n.b 0) else
 if n.op=12 then(0,isN M n.b 1) else
 if n.op=32\/n.op=31 then(0,n.k==0) else(0,false)
def knZ (f d:Int)(M:List In)(n:In):Int × Bool:=if (bnZ f d n).2=true then bnZ f d n else if (rkZ M n).2=true then rkZ M n else stZ M n
def lV (M:List In)(n:In):List (Bool × Int) :=
 if n.op=8\/n.op=17 then[(isN M n.a 0,n.b),(isN M n.b 0,n.a)] else
 if n.op=10 then[(isN M n.a 1,n.b),(isN M n.b 1,n.a)] else
 if n.op=16 then[(n.a==n.b,n.a),(isN M n.a 0,n.b),(isN M n.b 0,n.a)] else
 if n.op=15 then[(n.a==n.b,n.a),(isN M n.a (-1),n.b),(isN M n.b (-1),n.a)] else
 if n.op=24\/n.op=25 then[(n.a==n.b,n.a)] else
 if n.op=9\/n.op=13\/n.op=14 then[(isN M n.b 0,n.a)] else
 if n.op=11 then[(isN M n.b 1,n.a)] else
 if n.op=29\/n.op=30 then[(n.k==0,n.a)] else
 if n.op=32 then[(n.k==1,n.a)] else
 if n.op=5 then[((rg M n.a).op==5,(rg M n.a).a)] else
 if n.op=6 then[((rg M n.a).op==6,n.a)] else
 if n.op=28 then[(isN M n.a 0,n.c),((rg M n.a).op==1,n.b),(n.b==n.c,n.b)] else
 if n.op=27 then[(n.a==n.b || n.a==n.c,n.a),(n.b==n.c,n.b)] else
 if n.op=26 then[(n.b==n.c,n.b)] else[]
def zD (own:Int):List (Bool × Int)->Int
 | []=>own
 | p::L=>if p.1=true then p.2 else zD own L
def nuI (x:Int):In:=⟨1,0,0,0,x,0⟩
def nwI (f d:Int)(M:List In)(m:In):In:=if (knZ f d M m).2=true then nuI (knZ f d M m).1 else m
def nwT (f d:Int)(M:List In)(m:In)(own:Int):Int:=if (knZ f d M m).2=true then own else zD own (lV M m)
def foS (f d:Int)(s:List In × List Int)(n:In):List In × List Int :=
 (s.1++[nwI f d s.1 (bZ n s.2)],s.2++[nwT f d s.1 (bZ n s.2) s.1.length])
def nZ (f d:Int)(L:List In):List In × List Int:=L.foldl (foS f d) ([],[])
theorem wV (f d:Int)(L:List In)(n:In):nZ f d (L++[n])=foS f d (nZ f d L) n:=by simp[nZ]
theorem aBl (f d:Int)(L:List In):∀ k,k<=L.length->(nZ f d (L.take k)).1.length=k/\(nZ f d (L.take k)).2.length=k
 | 0,_=>by simp[nZ]
 | k+1,h=>by
  have ih:=aBl f d L k (by omega)
  rw[Cde.aH i0 (by omega),wV,foS]
  simp[ih.1,ih.2]
def foO (f d:Int)(L:List In)(out:Int):Int:=(nZ f d L).2.getD out.toNat 0
def fdL (f d:Int)(L:List In)(out:Int):List In:=if bB f d (nZ f d L).1 (foO f d L out)=0 then(nZ f d L).1 else L
def fdO (f d:Int)(L:List In)(out:Int):Int:=if bB f d (nZ f d L).1 (foO f d L out)=0 then foO f d L out else out
theorem mJ {M Z:List In}{i:Nat}(h:i < M.length):(M++Z).getD i i0=M.getD i i0:=by
 rw[List.getD_eq_getElem?_getD,List.getElem?_append_left h,<-List.getD_eq_getElem?_getD]
theorem kH (M:List In)(n:In):(M++[n]).getD M.length i0=n:=by simp[List.getD_eq_getElem?_getD]
theorem bJ (V:List Int)(x:Int):(V++[x]).getD V.length 0=x:=by simp[List.getD_eq_getElem?_getD]
theorem ofI (ha:w32 a):(BitVec.ofInt 64 a).toInt=a:=by
 obtain⟨h1,h2⟩:=ha
 rw[BitVec.toInt_ofInt]
 exact Int.bmod_eq_of_le (by omega) (by omega)
theorem aId (ha:w32 a):bits .and .i64 a a=a:=by
 have:=Spn.gD .and a a
 simp only[Spn.nC.bv,BitVec.and_self,ofI ha] at this
 exact this
theorem aM2 (ha:w32 a):bits .or .i64 a a=a:=by
 have:=Spn.gD .or a a
 simp only[Spn.nC.bv,BitVec.or_self,ofI ha] at this
 exact this
theorem aJ7 (a:Int):bits .xor .i64 a a=0:=by
 have:=Spn.gD .xor a a
 simp only[Spn.nC.bv,BitVec.xor_self] at this
 exact this
theorem zO (a:Int):bits .and .i64 a 0=0:=by
 have:=Spn.gD .and a 0
 simp only[Spn.nC.bv,show BitVec.ofInt 64 0=0#64 from rfl,BitVec.and_zero] at this
 exact this
theorem aA4 (a:Int):bits .and .i64 0 a=0:=by
 have:=Spn.gD .and 0 a
 simp only[Spn.nC.bv,show BitVec.ofInt 64 0=0#64 from rfl,BitVec.zero_and] at this
 exact this
theorem aM3 (ha:w32 a):bits .or .i64 a 0=a:=by
 have:=Spn.gD .or a 0
 simp only[Spn.nC.bv,show BitVec.ofInt 64 0=0#64 from rfl,BitVec.or_zero,ofI ha] at this
 exact this
theorem aOx (ha:w32 a):bits .or .i64 0 a=a:=by
 have:=Spn.gD .or 0 a
 simp only[Spn.nC.bv,show BitVec.ofInt 64 0=0#64 from rfl,BitVec.zero_or,ofI ha] at this
 exact this
theorem aJ8 (ha:w32 a):bits .xor .i64 a 0=a:=by
 have:=Spn.gD .xor a 0
 simp only[Spn.nC.bv,show BitVec.ofInt 64 0=0#64 from rfl,BitVec.xor_zero,ofI ha] at this
 exact this
theorem aKc (ha:w32 a):bits .xor .i64 0 a=a:=by
 have:=Spn.gD .xor 0 a
 simp only[Spn.nC.bv,show BitVec.ofInt 64 0=0#64 from rfl,BitVec.zero_xor,ofI ha] at this
 exact this
theorem aIc (ha:w32 a):bits .and .i64 a (-1)=a:=by
 have:=Spn.gD .and a (-1)
 simp only[Spn.nC.bv,show BitVec.ofInt 64 (-1)=BitVec.allOnes 64 from rfl,BitVec.and_allOnes,ofI ha] at this
 exact this
theorem aAr (ha:w32 a):bits .and .i64 (-1) a=a:=by
 have:=Spn.gD .and (-1) a
 simp only[Spn.nC.bv,show BitVec.ofInt 64 (-1)=BitVec.allOnes 64 from rfl,BitVec.allOnes_and,ofI ha] at this
 exact this
theorem yP {op k s x:Int}{xs:List Int}(h:vl op k s xs=(x,0)):(∀ z ∈ xs,w32 z)/\Spn.ex op k s (xs.getD 0 0) (xs.getD 1 0) (xs.getD 2 0)=(x,0)/\w32 x/\1<=ar op:=by
 have hw:=Vfy.vX h
 unfold vl Spn.bE at h
 split at h
 ·rename_i hm
  simp only[Spn.fE,Bool.and_eq_true,decide_eq_true_eq,List.all_eq_true] at hm
  refine⟨fun z hz=>Spn.bR.1 (hm.2 z hz),?_,hw,hm.1.1.1⟩
  split at h
  ·rename_i h0
   split at h
   ·cases h
    exact Prod.ext rfl h0
   ·cases h
  ·rename_i h0
   exact absurd (congrArg Prod.snd h) h0
 ·cases h
theorem aGd {r:Int}{u:Bool}{i j:Int}(h:rJ r u i=true)(hj:i<=j):rJ r u j=true:=by
 unfold rJ at *
 cases u
 ·exact h
 ·simp only[if_true,Spn.aK] at *
  omega
theorem aVa {n:In}{i j:Nat}(h:bC n i=true)(hj:i<=j):bC n j=true:=by
 simp only[bC,rM,Bool.and_eq_true] at *
 obtain⟨⟨h1,⟨h2,h3⟩,h4⟩,h5⟩:=h
 have e:(i:Int)<=j:=by omega
 exact⟨⟨h1,⟨aGd h2 e,aGd h3 e⟩,aGd h4 e⟩,h5⟩
structure Rv (f d:Int)(v:Wd)(M:List In)(V:List Int):Prop where
 len:V.length=M.length
 ok:∀ i,i < M.length->bC (M.getD i i0) i=true
 val:∀ i,i < M.length->dU f d v V (M.getD i i0)=(V.getD i 0,0)
theorem Rv.nil (f d:Int)(v:Wd):Rv f d v [] []:=⟨rfl,fun i h=>by simp at h,fun i h=>by simp at h⟩
theorem Rv.snoc {f d:Int}{v:Wd}{M:List In}{V:List Int}{n:In}{x:Int}(h:Rv f d v M V)(ho:bC n M.length=true)(hx:dU f d v V n=(x,0)):Rv f d v (M++[n]) (V++[x]):=by
 have hl:=h.len
 refine⟨by simp[hl],fun i hi=>?_,fun i hi=>?_⟩
 ·simp only[List.length_append,List.length_cons,List.length_nil] at hi
  by_cases e:i < M.length
  ·rw[mJ e];exact h.ok i e
  ·obtain rfl:i=M.length:=by omega
   rw[kH];exact ho
 ·simp only[List.length_append,List.length_cons,List.length_nil] at hi
  by_cases e:i < M.length
  ·rw[mJ e,Cde.aC2 (aVa (h.ok i e) (by omega)),h.val i e,Cde.dH (by omega)]
  ·obtain rfl:i=M.length:=by omega
   rw[kH,Cde.aC2 (by rw[hl];exact ho),hx,<-hl,bJ]
end Go.Proofs.Fld
namespace Go.Proofs.Fld
open Go.RowKit Go.IntWalk Knd
open YtjmfboegnmogdaaGreat (Wd gM Fits inpV)
open Cde (In i0 dL dE bC dN jS dV iU dU tL oD iG iE nJ rM rJ)
open Vfy (nY bB aM w32 eD)
variable {m n:In} {d f op r s x z:Int} {v:Wd} {M:List In} {T V:List Int} {k:Nat}
def gv (V:List Int)(r:Int):Int:=V.getD r.toNat 0
theorem vY (h:ar n.op=1):dL n=[n.a]:=by unfold dL dE;rw[show Spn.ar n.op=1 from h];rfl
theorem iT (h:ar n.op=2):dL n=[n.a,n.b]:=by unfold dL dE;rw[show Spn.ar n.op=2 from h];rfl
theorem nW (h:ar n.op=3):dL n=[n.a,n.b,n.c]:=by unfold dL dE;rw[show Spn.ar n.op=3 from h];rfl
theorem zQ (h:ar n.op=1)(V:List Int):iE V n=[gv V n.a]:=by unfold iE;rw[vY h];rfl
theorem tH (h:ar n.op=2)(V:List Int):iE V n=[gv V n.a,gv V n.b]:=by unfold iE;rw[iT h];rfl
theorem av3 (h:ar n.op=3)(V:List Int):iE V n=[gv V n.a,gv V n.b,gv V n.c]:=by unfold iE;rw[nW h];rfl
def dJ (r:Int)(i:Nat):Prop:=0<=r/\r.toNat < i
theorem mO {i:Nat}(h:bC n i=true)(hr:r ∈ dL n):dJ r i:=Vfy.oF h hr
theorem Rv.reg (h:Rv f d v M V)(hr:dJ r M.length):bC (rg M r) r.toNat=true/\dU f d v V (rg M r)=(gv V r,0):=⟨h.ok _ hr.2,h.val _ hr.2⟩
theorem Rv.num (h:Rv f d v M V)(hr:dJ r M.length)(ho:(rg M r).op=1):gv V r=(rg M r).k:=by
 have:=(h.reg hr).2
 rw[dU,if_pos ho] at this
 exact(congrArg Prod.fst this).symm
theorem Rv.isN {f d:Int}{v:Wd}{M:List In}{V:List Int}(h:Rv f d v M V){r k:Int}(hr:dJ r M.length)(ho:isN M r k=true):gv V r=k:=by
 simp only[Fld.isN,Bool.and_eq_true,beq_iff_eq] at ho
 rw[h.num hr ho.1,ho.2]
theorem bG (h:1<=ar n.op):dU f d v V n=vl n.op n.k n.s (iE V n):=by
 have h1:n.op≠1:=fun e=>by rw[e] at h;exact absurd h (by decide)
 have h2:n.op≠2:=fun e=>by rw[e] at h;exact absurd h (by decide)
 have h3:n.op≠3:=fun e=>by rw[e] at h;exact absurd h (by decide)
 rw[dU,if_neg h1,if_neg h2,if_neg h3]
theorem Rv.neg (h:Rv f d v M V)(hr:dJ r M.length)(ho:(rg M r).op=5):dJ (rg M r).a M.length/\gv V r=- gv V (rg M r).a:=by
 obtain⟨h1,h2⟩:=h.reg hr
 have ha:ar (rg M r).op=1:=by rw[ho];decide
 have hin:=mO h1 (r:=(rg M r).a) (by rw[vY ha];simp)
 refine⟨⟨hin.1,Nat.lt_trans hin.2 hr.2⟩,?_⟩
 rw[bG (by omega),zQ ha] at h2
 obtain⟨-,e,-⟩:=yP h2
 rw[ho] at e
 simp[Spn.ex] at e
 exact e.symm
theorem Rv.abs (h:Rv f d v M V)(hr:dJ r M.length)(ho:(rg M r).op=6):0<=gv V r:=by
 obtain⟨h1,h2⟩:=h.reg hr
 have ha:ar (rg M r).op=1:=by rw[ho];decide
 rw[bG (by omega),zQ ha] at h2
 obtain⟨-,e,-⟩:=yP h2
 rw[ho] at e
 simp[Spn.ex] at e
 have e':max (gv V (rg M r).a) (-gv V (rg M r).a)=gv V r:=e
 omega
theorem fO {k y:Int}(h:vl op k s [x,y]=(z,0)):w32 x/\w32 y/\Spn.ex op k s x y 0=(z,0):=by
 obtain⟨h1,h2,-⟩:=yP h
 exact⟨h1 x (by simp),h1 y (by simp),h2⟩
theorem lX {k:Int}(h:vl op k s [x]=(z,0)):w32 x/\Spn.ex op k s x 0 0=(z,0):=by
 obtain⟨h1,h2,-⟩:=yP h
 exact⟨h1 x (by simp),h2⟩
theorem yL {k y u:Int}(h:vl op k s [x,y,u]=(z,0)):w32 x/\w32 y/\w32 u/\Spn.ex op k s x y u=(z,0):=by
 obtain⟨h1,h2,-⟩:=yP h
 exact⟨h1 x (by simp),h1 y (by simp),h1 u (by simp),h2⟩
theorem aV3 (h:Rv f d v M V)(ho:bC m M.length=true)(hx:dU f d v V m=(x,0))(hs:(stZ M m).2=true):(stZ M m).1=x:=by
 have hin:=fun r=>mO ho (r:=r)
 unfold stZ at hs ⊢
 split at hs
 ·rename_i hop
  rw[if_pos hop]
  have ha:ar m.op=2:=by rcases hop with e|e|e|e|e <;> rw[e] <;> decide
  rw[bG (by omega),tH ha] at hx
  obtain⟨-,-,e⟩:=fO hx
  have hab:m.a=m.b:=by simpa using hs
  rw[hab] at e
  generalize gv V m.b=y at e
  rcases hop with q|q|q|q|q <;> rw[q] at e <;> simp[Spn.ex,Spn.tr,aJ7] at e <;> omega
 rename_i h1
 rw[if_neg h1]
 split at hs
 ·rename_i hop
  rw[if_pos hop]
  have ha:ar m.op=2:=by rcases hop with e|e|e <;> rw[e] <;> decide
  rw[bG (by omega),tH ha] at hx
  obtain⟨-,-,e⟩:=fO hx
  have hab:m.a=m.b:=by simpa using hs
  rw[hab] at e
  generalize gv V m.b=y at e
  rcases hop with q|q|q <;> rw[q] at e <;> simp[Spn.ex,Spn.tr] at e <;> omega
 rename_i h2
 rw[if_neg h2]
 split at hs
 ·rename_i hop
  rw[if_pos hop]
  have ha:ar m.op=2:=by rcases hop with e|e <;> rw[e] <;> decide
  have ia:=hin m.a (by rw[iT ha];simp)
  have ib:=hin m.b (by rw[iT ha];simp)
  rw[bG (by omega),tH ha] at hx
  obtain⟨-,-,e⟩:=fO hx
  simp only[Bool.or_eq_true] at hs
  rcases hs with hs|hs
  ·rw[h.isN ia hs] at e
   rcases hop with q|q <;> rw[q] at e <;> simp[Spn.ex,aA4] at e <;> omega
  ·rw[h.isN ib hs] at e
   rcases hop with q|q <;> rw[q] at e <;> simp[Spn.ex,zO] at e <;> omega
 rename_i h3
 rw[if_neg h3]
 split at hs
 ·rename_i hop
  rw[if_pos hop]
  have ha:ar m.op=2:=by rw[hop];decide
  have ib:=hin m.b (by rw[iT ha];simp)
  rw[bG (by omega),tH ha] at hx
  obtain⟨-,-,e⟩:=fO hx
  rw[h.isN ib hs,hop] at e
  simp[Spn.ex,Int.tmod_one] at e
  omega
 rename_i h4
 rw[if_neg h4]
 split at hs
 ·rename_i hop
  rw[if_pos hop]
  have ha:ar m.op=1:=by rcases hop with e|e <;> rw[e] <;> decide
  rw[bG (by omega),zQ ha] at hx
  obtain⟨-,e⟩:=lX hx
  have hk:m.k=0:=by simpa using hs
  rw[hk] at e
  rcases hop with q|q <;> rw[q] at e <;> simp[Spn.ex,zO] at e <;> omega
 ·cases hs
theorem aUm (h28:m.op≠28)(h:Rv f d v M V)(ho:bC m M.length=true)(hx:dU f d v V m=(x,0)) :
  ∀ p ∈ lV M m,p.1=true->dJ p.2 M.length/\gv V p.2=x:=by
 have hin:=fun r=>mO ho (r:=r)
 unfold lV
 by_cases hop:m.op=8\/m.op=17
 ·rw[if_pos hop]
  have ha:ar m.op=2:=by rcases hop with e|e <;> rw[e] <;> decide
  have ia:=hin m.a (by rw[iT ha];simp)
  have ib:=hin m.b (by rw[iT ha];simp)
  rw[bG (by omega),tH ha] at hx
  obtain⟨w1,w2,e⟩:=fO hx
  intro p hp hs
  simp only[List.mem_cons,List.not_mem_nil,or_false] at hp
  rcases hp with rfl|rfl
  ·refine⟨ib,?_⟩
   rw[h.isN ia hs] at e
   rcases hop with q|q <;> rw[q] at e <;> simp[Spn.ex,aKc w2] at e <;> exact e
  ·refine⟨ia,?_⟩
   rw[h.isN ib hs] at e
   rcases hop with q|q <;> rw[q] at e <;> simp[Spn.ex,aJ8 w1] at e <;> exact e
 rw[if_neg hop]
 clear hop
 by_cases hop:m.op=10
 ·rw[if_pos hop]
  have ha:ar m.op=2:=by rw[hop];decide
  have ia:=hin m.a (by rw[iT ha];simp)
  have ib:=hin m.b (by rw[iT ha];simp)
  rw[bG (by omega),tH ha] at hx
  obtain⟨w1,w2,e⟩:=fO hx
  intro p hp hs
  simp only[List.mem_cons,List.not_mem_nil,or_false] at hp
  rcases hp with rfl|rfl
  ·refine⟨ib,?_⟩
   rw[h.isN ia hs,hop] at e
   simp[Spn.ex] at e
   exact e
  ·refine⟨ia,?_⟩
   rw[h.isN ib hs,hop] at e
   simp[Spn.ex] at e
   exact e
 rw[if_neg hop]
 clear hop
 by_cases hop:m.op=16
 ·rw[if_pos hop]
  have ha:ar m.op=2:=by rw[hop];decide
  have ia:=hin m.a (by rw[iT ha];simp)
  have ib:=hin m.b (by rw[iT ha];simp)
  rw[bG (by omega),tH ha,hop] at hx
  obtain⟨w1,w2,e⟩:=fO hx
  intro p hp hs
  simp only[List.mem_cons,List.not_mem_nil,or_false] at hp
  rcases hp with rfl|rfl|rfl
  ·refine⟨ia,?_⟩
   have hab:m.a=m.b:=by simpa using hs
   rw[<-hab] at e
   simp[Spn.ex,aM2 w1] at e
   exact e
  ·refine⟨ib,?_⟩
   rw[h.isN ia hs] at e
   simp[Spn.ex,aOx w2] at e
   exact e
  ·refine⟨ia,?_⟩
   rw[h.isN ib hs] at e
   simp[Spn.ex,aM3 w1] at e
   exact e
 rw[if_neg hop]
 clear hop
 by_cases hop:m.op=15
 ·rw[if_pos hop]
  have ha:ar m.op=2:=by rw[hop];decide
  have ia:=hin m.a (by rw[iT ha];simp)
  have ib:=hin m.b (by rw[iT ha];simp)
  rw[bG (by omega),tH ha,hop] at hx
  obtain⟨w1,w2,e⟩:=fO hx
  intro p hp hs
  simp only[List.mem_cons,List.not_mem_nil,or_false] at hp
  rcases hp with rfl|rfl|rfl
  ·refine⟨ia,?_⟩
   have hab:m.a=m.b:=by simpa using hs
   rw[<-hab] at e
   simp[Spn.ex,aId w1] at e
   exact e
  ·refine⟨ib,?_⟩
   rw[h.isN ia hs] at e
   simp[Spn.ex,aAr w2] at e
   exact e
  ·refine⟨ia,?_⟩
   rw[h.isN ib hs] at e
   simp[Spn.ex,aIc w1] at e
   exact e
 rw[if_neg hop]
 clear hop
 by_cases hop:m.op=24\/m.op=25
 ·rw[if_pos hop]
  have ha:ar m.op=2:=by rcases hop with e|e <;> rw[e] <;> decide
  have ia:=hin m.a (by rw[iT ha];simp)
  rw[bG (by omega),tH ha] at hx
  obtain⟨w1,w2,e⟩:=fO hx
  intro p hp hs
  simp only[List.mem_cons,List.not_mem_nil,or_false] at hp
  subst hp
  refine⟨ia,?_⟩
  have hab:m.a=m.b:=by simpa using hs
  rw[<-hab] at e
  rcases hop with q|q <;> rw[q] at e <;> simp[Spn.ex] at e <;> exact e
 rw[if_neg hop]
 clear hop
 by_cases hop:m.op=9\/m.op=13\/m.op=14
 ·rw[if_pos hop]
  have ha:ar m.op=2:=by rcases hop with e|e|e <;> rw[e] <;> decide
  have ia:=hin m.a (by rw[iT ha];simp)
  have ib:=hin m.b (by rw[iT ha];simp)
  rw[bG (by omega),tH ha] at hx
  obtain⟨w1,w2,e⟩:=fO hx
  intro p hp hs
  simp only[List.mem_cons,List.not_mem_nil,or_false] at hp
  subst hp
  refine⟨ia,?_⟩
  rw[h.isN ib hs] at e
  rcases hop with q|q|q <;> rw[q] at e <;> simp[Spn.ex,Spn.eP] at e <;> exact e
 rw[if_neg hop]
 clear hop
 by_cases hop:m.op=11
 ·rw[if_pos hop]
  have ha:ar m.op=2:=by rw[hop];decide
  have ia:=hin m.a (by rw[iT ha];simp)
  have ib:=hin m.b (by rw[iT ha];simp)
  rw[bG (by omega),tH ha,hop] at hx
  obtain⟨w1,w2,e⟩:=fO hx
  intro p hp hs
  simp only[List.mem_cons,List.not_mem_nil,or_false] at hp
  subst hp
  refine⟨ia,?_⟩
  rw[h.isN ib hs] at e
  simp[Spn.ex,Int.tdiv_one] at e
  exact e
 rw[if_neg hop]
 clear hop
 by_cases hop:m.op=29\/m.op=30
 ·rw[if_pos hop]
  have ha:ar m.op=1:=by rcases hop with e|e <;> rw[e] <;> decide
  have ia:=hin m.a (by rw[vY ha];simp)
  rw[bG (by omega),zQ ha] at hx
  obtain⟨w1,e⟩:=lX hx
  intro p hp hs
  simp only[List.mem_cons,List.not_mem_nil,or_false] at hp
  subst hp
  refine⟨ia,?_⟩
  have hk:m.k=0:=by simpa using hs
  rw[hk] at e
  rcases hop with q|q <;> rw[q] at e <;> simp[Spn.ex] at e <;> exact e
 rw[if_neg hop]
 clear hop
 by_cases hop:m.op=32
 ·rw[if_pos hop]
  have ha:ar m.op=1:=by rw[hop];decide
  have ia:=hin m.a (by rw[vY ha];simp)
  rw[bG (by omega),zQ ha,hop] at hx
  obtain⟨w1,e⟩:=lX hx
  intro p hp hs
  simp only[List.mem_cons,List.not_mem_nil,or_false] at hp
  subst hp
  refine⟨ia,?_⟩
  have hk:m.k=1:=by simpa using hs
  rw[hk] at e
  simp[Spn.ex] at e
  exact e
 rw[if_neg hop]
 clear hop
 by_cases hop:m.op=5
 ·rw[if_pos hop]
  have ha:ar m.op=1:=by rw[hop];decide
  have ia:=hin m.a (by rw[vY ha];simp)
  rw[bG (by omega),zQ ha,hop] at hx
  obtain⟨w1,e⟩:=lX hx
  intro p hp hs
  simp only[List.mem_cons,List.not_mem_nil,or_false] at hp
  subst hp
  obtain⟨i2,e2⟩:=h.neg ia (by simpa using hs)
  refine⟨i2,?_⟩
  rw[e2] at e
  simp[Spn.ex] at e
  exact e
 rw[if_neg hop]
 clear hop
 by_cases hop:m.op=6
 ·rw[if_pos hop]
  have ha:ar m.op=1:=by rw[hop];decide
  have ia:=hin m.a (by rw[vY ha];simp)
  rw[bG (by omega),zQ ha,hop] at hx
  obtain⟨w1,e⟩:=lX hx
  intro p hp hs
  simp only[List.mem_cons,List.not_mem_nil,or_false] at hp
  subst hp
  have e2:=h.abs ia (by simpa using hs)
  refine⟨ia,?_⟩
  have e3:=congrArg Prod.fst e
  simp only[Spn.ex] at e3
  change max (gv V m.a) (-gv V m.a)=x at e3
  show gv V m.a=x
  omega
 rw[if_neg hop]
 clear hop
 by_cases hop:m.op=28
 ·rw[if_pos hop]
  exact absurd hop h28
 rw[if_neg hop]
 clear hop
 by_cases hop:m.op=27
 ·rw[if_pos hop]
  have ha:ar m.op=3:=by rw[hop];decide
  have ia:=hin m.a (by rw[nW ha];simp)
  have ib:=hin m.b (by rw[nW ha];simp)
  rw[bG (by omega),av3 ha,hop] at hx
  obtain⟨w1,w2,w3,e⟩:=yL hx
  have e3:max (min (gv V m.a) (gv V m.b)) (min (max (gv V m.a) (gv V m.b)) (gv V m.c))=x:=by
   have:=congrArg Prod.fst e
   simpa [Spn.ex] using this
  intro p hp hs
  simp only[List.mem_cons,List.not_mem_nil,or_false] at hp
  rcases hp with rfl|rfl
  ·refine⟨ia,?_⟩
   show gv V m.a=x
   simp only[Bool.or_eq_true,beq_iff_eq] at hs
   rcases hs with hs|hs
   ·rw[<-hs] at e3;omega
   ·rw[<-hs] at e3;omega
  ·refine⟨ib,?_⟩
   show gv V m.b=x
   simp only[beq_iff_eq] at hs
   rw[<-hs] at e3;omega
 rw[if_neg hop]
 clear hop
 by_cases hop:m.op=26
 ·rw[if_pos hop]
  have ha:ar m.op=3:=by rw[hop];decide
  have ib:=hin m.b (by rw[nW ha];simp)
  rw[bG (by omega),av3 ha,hop] at hx
  obtain⟨w1,w2,w3,e⟩:=yL hx
  have e3:min (gv V m.c) (max (gv V m.a) (gv V m.b))=x:=by
   have:=congrArg Prod.fst e
   simpa [Spn.ex] using this
  intro p hp hs
  simp only[List.mem_cons,List.not_mem_nil,or_false] at hp
  subst hp
  refine⟨ib,?_⟩
  show gv V m.b=x
  simp only[beq_iff_eq] at hs
  rw[<-hs] at e3;omega
 ·rw[if_neg hop]
  intro p hp
  cases hp
theorem aLh (own:Int):∀ L:List (Bool × Int),zD own L=own\/∃ p ∈ L,p.1=true/\zD own L=p.2
 | []=>.inl rfl
 | p::L=>by
  unfold zD
  split
  ·rename_i hp
   exact .inr ⟨p,by simp,hp,rfl⟩
  ·rcases aLh own L with h|⟨q,h1,h2,h3⟩
   ·exact .inl h
   ·exact .inr ⟨q,by simp[h1],h2,h3⟩
theorem aT1 (h:Rv f d v M V)(ho:bC m M.length=true)(hx:dU f d v V m=(x,0))(own:Int) :
  zD own (lV M m)=own\/(dJ (zD own (lV M m)) M.length/\gv V (zD own (lV M m))=x):=by
 by_cases hop:m.op=28
 ·have hin:=fun r=>mO ho (r:=r)
  have ha:ar m.op=3:=by rw[hop];decide
  have ia:=hin m.a (by rw[nW ha];simp)
  have ib:=hin m.b (by rw[nW ha];simp)
  have ic:=hin m.c (by rw[nW ha];simp)
  rw[bG (by omega),av3 ha,hop] at hx
  obtain⟨w1,w2,w3,e⟩:=yL hx
  have e3:(if gv V m.a=0 then gv V m.c else gv V m.b)=x:=by
   have:=congrArg Prod.fst e
   simpa [Spn.ex] using this
  have el:lV M m=[(isN M m.a 0,m.c),((rg M m.a).op==1,m.b),(m.b==m.c,m.b)]:=by unfold lV;rw[hop];simp
  rw[el]
  simp only[zD]
  by_cases h1:isN M m.a 0=true
  ·rw[if_pos h1]
   rw[h.isN ia h1,if_pos rfl] at e3
   exact .inr ⟨ic,e3⟩
  rw[if_neg h1]
  by_cases h2:((rg M m.a).op==1)=true
  ·rw[if_pos h2]
   refine .inr ⟨ib,?_⟩
   have hn:=h.num ia (by simpa using h2)
   have h0:gv V m.a≠0:=by
    intro h0
    apply h1
    simp only[Fld.isN,Bool.and_eq_true]
    refine⟨h2,?_⟩
    rw[hn] at h0
    simpa using h0
   rw[if_neg h0] at e3
   exact e3
  rw[if_neg h2]
  by_cases h3:(m.b==m.c)=true
  ·rw[if_pos h3]
   refine .inr ⟨ib,?_⟩
   have hbc:m.b=m.c:=by simpa using h3
   rw[<-hbc] at e3
   split at e3 <;> exact e3
  ·rw[if_neg h3]
   exact .inl rfl
 ·rcases aLh own (lV M m) with e|⟨p,h1,h2,h3⟩
  ·exact .inl e
  ·right
   rw[h3]
   exact aUm hop h ho hx p h1 h2
structure St (V:List Int)(T:List Int)(k:Nat):Prop where
 len:T.length=k
 vl:V.length=k
 at':∀ i,i < k->0<=T.getD i 0/\(T.getD i 0).toNat<=i/\gv V (T.getD i 0)=V.getD i 0
theorem St.ex (h:St V T k)(hr:dJ r k):dJ (dA T r) k/\gv V (dA T r)=gv V r:=by
 obtain⟨h1,h2,h3⟩:=h.at' r.toNat hr.2
 have e:dA T r=T.getD r.toNat 0:=by
  unfold dA
  rw[if_neg]
  have:=h.len
  have:=hr.1
  have:=hr.2
  omega
 rw[e]
 exact⟨⟨h1,by have:=hr.2;omega⟩,h3⟩
theorem jU {u:Bool}{i:Nat}:rJ r u i=true↔(u=true->dJ r i)/\(u=false->r=0):=by
 unfold rJ dJ
 cases u
 ·simp
 ·simp only[if_true,Spn.aK]
  constructor
  ·intro h;exact⟨fun _=>by omega,fun h=>by cases h⟩
  ·intro h;have:=h.1 trivial;omega
theorem aEw (h:St V T k)(ho:bC n k=true):bC (bZ n T) k=true:=by
 have hc:=Cde.qU ho
 have ha:=Cde.aAq ho
 simp only[bC,rM,Bool.and_eq_true,jU] at ho
 obtain⟨⟨-,⟨⟨a1,a2⟩,b1,b2⟩,c1,c2⟩,-⟩:=ho
 simp only[decide_eq_true_eq,decide_eq_false_iff_not] at a1 a2 b1 b2 c1 c2
 have hc':nJ (bZ n T)=true:=hc
 simp only[bC,rM,Bool.and_eq_true,jU,hc',decide_eq_true_eq,decide_eq_false_iff_not]
 refine⟨⟨ha,⟨⟨fun u=>?_,fun u=>?_⟩,fun u=>?_,fun u=>?_⟩,fun u=>?_,fun u=>?_⟩,trivial⟩
 ·show dJ (if 0 < ar n.op then dA T n.a else n.a) k
  rw[if_pos (show 0 < ar n.op from u)];exact(h.ex (a1 u)).1
 ·show (if 0 < ar n.op then dA T n.a else n.a)=0
  rw[if_neg (show ¬0 < ar n.op from u)];exact a2 u
 ·show dJ (if 1 < ar n.op then dA T n.b else n.b) k
  rw[if_pos (show 1 < ar n.op from u)];exact(h.ex (b1 u)).1
 ·show (if 1 < ar n.op then dA T n.b else n.b)=0
  rw[if_neg (show ¬1 < ar n.op from u)];exact b2 u
 ·show dJ (if 2 < ar n.op then dA T n.c else n.c) k
  rw[if_pos (show 2 < ar n.op from u)];exact(h.ex (c1 u)).1
 ·show (if 2 < ar n.op then dA T n.c else n.c)=0
  rw[if_neg (show ¬2 < ar n.op from u)];exact c2 u
theorem aV6 (h:St V T k)(ho:bC n k=true):iE V (bZ n T)=iE V n:=by
 have hin:=fun r=>mO ho (r:=r)
 have ha:=Cde.aAq ho
 have h3:=Spn.wC n.op
 rcases(show ar n.op=0\/ar n.op=1\/ar n.op=2\/ar n.op=3 by unfold ar;omega) with e|e|e|e
 ·have e1:dL n=[]:=by unfold dL dE;rw[show Spn.ar n.op=0 from e];rfl
  have e2:dL (bZ n T)=[]:=by unfold dL dE;rw[show Spn.ar (bZ n T).op=0 from e];rfl
  unfold iE;rw[e1,e2]
 ·rw[zQ e,zQ (n:=bZ n T) e]
  have ea:(bZ n T).a=dA T n.a:=by show (if 0 < ar n.op then dA T n.a else n.a)=_;rw[if_pos (by omega)]
  rw[ea,(h.ex (hin n.a (by rw[vY e];simp))).2]
 ·rw[tH e,tH (n:=bZ n T) e]
  have ea:(bZ n T).a=dA T n.a:=by show (if 0 < ar n.op then dA T n.a else n.a)=_;rw[if_pos (by omega)]
  have eb:(bZ n T).b=dA T n.b:=by show (if 1 < ar n.op then dA T n.b else n.b)=_;rw[if_pos (by omega)]
  rw[ea,eb,(h.ex (hin n.a (by rw[iT e];simp))).2,(h.ex (hin n.b (by rw[iT e];simp))).2]
 ·rw[av3 e,av3 (n:=bZ n T) e]
  have ea:(bZ n T).a=dA T n.a:=by show (if 0 < ar n.op then dA T n.a else n.a)=_;rw[if_pos (by omega)]
  have eb:(bZ n T).b=dA T n.b:=by show (if 1 < ar n.op then dA T n.b else n.b)=_;rw[if_pos (by omega)]
  have ec:(bZ n T).c=dA T n.c:=by show (if 2 < ar n.op then dA T n.c else n.c)=_;rw[if_pos (by omega)]
  rw[ea,eb,ec,(h.ex (hin n.a (by rw[nW e];simp))).2,(h.ex (hin n.b (by rw[nW e];simp))).2,(h.ex (hin n.c (by rw[nW e];simp))).2]
theorem aOg (h:St V T k)(ho:bC n k=true):dU f d v V (bZ n T)=dU f d v V n:=by
 unfold dU
 rw[aV6 h ho]
 rfl
theorem aRq (h:Rv f d v M V)(ho:bC m M.length=true)(ha:alN M m=true):kaL M m=iE V m:=by
 unfold kaL iE
 apply List.map_congr_left
 intro r hr
 simp only[alN,List.all_eq_true] at ha
 exact(h.num (mO ho hr) (by simpa using ha r hr)).symm
theorem aVs (h:Rv f d v M V)(ho:bC m M.length=true)(hx:dU f d v V m=(x,0))(h1:1<=ar m.op)(ha:alN M m=true):rkZ M m=(x,true)/\vl m.op m.k m.s (kaL M m)=(x,0):=by
 rw[bG h1] at hx
 have e:vl m.op m.k m.s (kaL M m)=(x,0):=by rw[aRq h ho ha];exact hx
 refine⟨?_,e⟩
 rw[rkZ,if_pos ha,e]
 rfl
theorem aRt (h1:¬1<=ar m.op):(rkZ M m).2=false:=by
 unfold rkZ
 split
 ·have:vl m.op m.k m.s (kaL M m)=(0,1):=by
   unfold vl Spn.bE
   rw[if_neg]
   simp only[Spn.fE,Bool.and_eq_true,decide_eq_true_eq]
   intro h
   exact h1 h.1.1.1
  rw[this];rfl
 ·rfl
theorem aTm (hx:dU f d v V m=(x,0))(hb:(bnZ f d m).2=true):(bnZ f d m).1=x:=by
 unfold bnZ at *
 split at hb
 ·rename_i hop
  rw[if_pos hop]
  rw[dU,if_neg (by omega),if_pos hop] at hx
  have e:=congrArg Prod.fst hx
  simp only[inpV] at e
  split at hb
  ·rename_i hk;rw[if_pos hk];rw[hk] at e;simpa using e
  ·rename_i hk
   rw[if_neg hk]
   split at hb
   ·rename_i hk;rw[if_pos hk];rw[hk] at e;simpa using e
   ·rename_i hk
    rw[if_neg hk]
    split at hb
    ·rename_i hk;rw[if_pos hk];rw[hk] at e;simpa using e
    ·cases hb
 ·cases hb
theorem aUh (h:Rv f d v M V)(ho:bC m M.length=true)(hx:dU f d v V m=(x,0))(hk:(knZ f d M m).2=true):(knZ f d M m).1=x:=by
 unfold knZ at *
 split at hk
 ·rename_i hb
  rw[if_pos hb]
  exact aTm hx hb
 ·rename_i hb
  rw[if_neg hb]
  split at hk
  ·rename_i hr
   rw[if_pos hr]
   by_cases h1:1<=ar m.op
   ·by_cases ha:alN M m=true
    ·rw[(aVs h ho hx h1 ha).1]
    ·rw[rkZ,if_neg ha] at hr;cases hr
   ·rw[aRt h1] at hr;cases hr
  ·rename_i hr
   rw[if_neg hr]
   exact aV3 h ho hx hk
theorem aXr (hx:w32 x)(i:Nat):bC (nuI x) i=true:=by
 have e:Spn.wd x=true:=Spn.bR.2 hx
 simp[bC,nuI,rM,rJ,nJ,Spn.ar,e]
theorem aXs (f d:Int)(v:Wd)(V:List Int)(x:Int):dU f d v V (nuI x)=(x,0):=by simp[dU,nuI]
theorem aQz (h:Rv f d v M V)(hT:St V T M.length)(ho:bC n M.length=true)(hx:dU f d v V n=(x,0))(hw:w32 x) :
  bC (nwI f d M (bZ n T)) M.length=true/\dU f d v V (nwI f d M (bZ n T))=(x,0) /\
  (nwT f d M (bZ n T) M.length=M.length\/(dJ (nwT f d M (bZ n T) M.length) M.length/\gv V (nwT f d M (bZ n T) M.length)=x)):=by
 have ho':=aEw hT ho
 have hx':dU f d v V (bZ n T)=(x,0):=by rw[aOg hT ho];exact hx
 unfold nwI nwT
 by_cases hk:(knZ f d M (bZ n T)).2=true
 ·rw[if_pos hk,if_pos hk,aUh h ho' hx' hk]
  exact⟨aXr hw _,aXs ..,.inl rfl⟩
 ·rw[if_neg hk,if_neg hk]
  exact⟨ho',hx',aT1 h ho' hx' _⟩
theorem St.snoc (h:St V T k){t:Int}(ht:t=k\/(dJ t k/\gv V t=x)):St (V++[x]) (T++[t]) (k+1):=by
 have hl:=h.len
 have hv:=h.vl
 refine⟨by simp[hl],by simp[hv],fun i hi=>?_⟩
 by_cases e:i < k
 ·obtain⟨h1,h2,h3⟩:=h.at' i e
  rw[Cde.dH (by omega)]
  refine⟨h1,h2,?_⟩
  rw[gv,Cde.dH (by omega),Cde.dH (by omega)]
  exact h3
 ·obtain rfl:i=k:=by omega
  rw[show (T++[t]).getD i 0=t by rw[<-hl];exact bJ T t,show (V++[x]).getD i 0=x by rw[<-hv];exact bJ V x]
  rcases ht with rfl|⟨h1,h2⟩
  ·refine⟨by omega,by omega,?_⟩
   rw[gv,Int.toNat_natCast,<-hv];exact bJ V x
  ·refine⟨h1.1,by have:=h1.2;omega,?_⟩
   rw[gv,Cde.dH (by rw[hv];exact h1.2)]
   exact h2
end Go.Proofs.Fld
namespace Go.Proofs.Fld
open Go.RowKit Go.IntWalk Knd
open YtjmfboegnmogdaaGreat (Wd gM Fits inpV)
open Cde (In i0 dL dE bC dN jS dV iU dU tL oD iG iE nJ rM rJ nQ)
open Vfy (nY bB aM w32 eD gU)
variable {d f out:Int} {L:List In} {k:Nat}
def wd0 (f d:Int):Wd:=⟨0,0,0,List.replicate (bL f d).toNat (aX f d)⟩
theorem yR (hm:May f d):Fits f d (wd0 f d):=by
 have e0:fQ f d 0=some (0,kN f-1):=by unfold fQ;rw[if_neg (by simpa using hm)];rfl
 have e1:fQ f d 1=some (0,kZ f-1):=by unfold fQ;rw[if_neg (by simpa using hm)];rfl
 have e2:fQ f d 2=some (0,3):=by unfold fQ;rw[if_neg (by simpa using hm)];rfl
 have hc:1<=kN f/\1<=kZ f:=by unfold kN kZ;constructor <;> split <;> omega
 have hn:0<=bL f d:=by
  unfold bL
  repeat' split
  all_goals omega
 have hb:dX f d<=aX f d/\aX f d<=bK f d:=by
  rcases kT f d with⟨h,rfl⟩|⟨h,rfl⟩|h
  ·have:=kX (d-1) (by have:=h.2.2;omega)
   obtain⟨a,b,c,-⟩:=zs0 h
   rw[a,b,c];omega
  ·have:=kX (d-1) (by have:=h.2.2;omega)
   obtain⟨a,b,c,-⟩:=zs1 h
   rw[a,b,c];omega
  ·exact absurd hm h
 refine⟨⟨⟨⟨0,kN f-1,e0,Int.le_refl _,by show (0:Int)<=_;omega⟩,⟨0,kZ f-1,e1,Int.le_refl _,by show (0:Int)<=_;omega⟩⟩,⟨0,3,e2,Int.le_refl _,by show (0:Int)<=_;omega⟩⟩,?_,?_⟩
 ·show ((List.replicate (bL f d).toNat (aX f d)).length:Int)=bL f d
  rw[List.length_replicate];omega
 ·intro z hz
  rw[List.eq_of_mem_replicate hz];exact hb
structure Fi (f d:Int)(v:Wd)(L:List In)(k:Nat)(V:List Int):Prop where
 val:oD f d v (L.take k)=(0,V)
 rv:Rv f d v (nZ f d (L.take k)).1 V
 st:St V (nZ f d (L.take k)).2 k
 new:oD f d v (nZ f d (L.take k)).1=(0,V)
theorem aPw {v:Wd}{V:List Int}(h:Fi f d v L k V)(hk:k < L.length)(ho:bC (L.getD k i0) k=true){x:Int}(hx:dU f d v V (L.getD k i0)=(x,0))(hw:w32 x):Fi f d v L (k+1) (V++[x]):=by
 have hl:=(aBl f d L k (by omega)).1
 have hst:=h.st
 rw[show k=(nZ f d (L.take k)).1.length from hl.symm] at hst
 obtain⟨h1,h2,h3⟩:=aQz h.rv (n:=L.getD k i0) (by rw[hl];rw[hl] at hst;exact hst) (by rw[hl];exact ho) hx hw
 have e:nZ f d (L.take (k+1))=foS f d (nZ f d (L.take k)) (L.getD k i0):=by rw[Cde.aH i0 hk,wV]
 refine⟨?_,?_,?_,?_⟩
 ·rw[Cde.aH i0 hk,Cde.eG,h.val,tL,if_pos rfl,hx,if_pos rfl]
 ·rw[e];exact h.rv.snoc h1 h2
 ·rw[e]
  refine h.st.snoc ?_
  rw[hl] at h3
  show nwT f d (nZ f d (L.take k)).1 (bZ (L.getD k i0) (nZ f d (L.take k)).2) ((nZ f d (L.take k)).1.length)=_\/_
  rw[hl];exact h3
 ·rw[e]
  show oD f d v ((nZ f d (L.take k)).1++[_])=_
  rw[Cde.eG,h.new,tL,if_pos rfl,h2,if_pos rfl]
theorem aBm {f d:Int}{v:Wd}{L:List In}{out:Int}(h:bB f d L out=0)(hF:Fits f d v):∀ k,k<=L.length->∃ V,Fi f d v L k V
 | 0,_=>⟨[],rfl,Rv.nil f d v,⟨rfl,rfl,fun i hi=>absurd hi (Nat.not_lt_zero _)⟩,rfl⟩
 | k+1,hk=>by
  obtain⟨V,hV⟩:=aBm h hF k (by omega)
  obtain⟨m,ha,⟨S,hS,-,-⟩,-,-,-⟩:=aM h
  obtain⟨hm,-,-,-,-,hok⟩:=Cde.aS m
  obtain⟨V2,S2,g1,g2,g3⟩:=Vfy.rF hm hF hok ha (by rw[hS]) (k+1) hk
  have ho:=Cde.cZ hok (show k < L.length by omega)
  rw[Cde.aH i0 (by omega),Cde.eG,hV.val,tL,if_pos rfl] at g1
  have hlV:=hV.st.vl
  by_cases hz:(dU f d v V (L.getD k i0)).2=0
  ·rw[if_pos hz] at g1
   cases g1
   have hw:w32 (dU f d v V (L.getD k i0)).1:=by
    have:=(g3.2 k (by rw[<-g3.1];simp[hlV])).2.2
    rw[show (V++[(dU f d v V (L.getD k i0)).1]).getD k 0=(dU f d v V (L.getD k i0)).1 by rw[<-hlV];exact bJ _ _] at this
    exact this
   exact⟨_,aPw hV (by omega) ho (Prod.ext rfl hz) hw⟩
  ·rw[if_neg hz] at g1
   exact absurd (congrArg Prod.fst g1) hz
theorem aDi (f d:Int)(hk:k < L.length):nZ f d (L.take (k+1))=foS f d (nZ f d (L.take k)) (L.getD k i0):=by rw[Cde.aH i0 hk,wV]
theorem aW2 (h:bB f d L out=0)(hk:k < L.length):bC (bZ (L.getD k i0) (nZ f d (L.take k)).2) k=true:=by
 obtain⟨m,-⟩:=aM h
 obtain⟨hm,-,-,-,-,hok⟩:=Cde.aS m
 obtain⟨V,hV⟩:=aBm h (yR hm) k (by omega)
 exact aEw hV.st (Cde.cZ hok hk)
theorem aXu (f d:Int)(M:List In)(m:In):(nwI f d M m).op=1\/nwI f d M m=m:=by
 unfold nwI
 split
 ·exact .inl rfl
 ·exact .inr rfl
theorem aHd {f d:Int}{L:List In}(hok:dN L L.length=true):∀ k,k<=L.length->dV (nZ f d (L.take k)).1<=dV (L.take k)
 | 0,_=>by simp[nZ,dV]
 | k+1,hk=>by
  have ih:=aHd (f:=f) (d:=d) hok k (by omega)
  rw[aDi f d (by omega),Cde.aH i0 (by omega),Cde.fI,foS,Cde.fI]
  have hp:=Vfy.aK2 (Cde.cZ hok (show k < L.length by omega))
  rcases aXu f d (nZ f d (L.take k)).1 (bZ (L.getD k i0) (nZ f d (L.take k)).2) with e|e
  ·rw[e]
   have:iU 1=1:=rfl
   omega
  ·rw[e]
   have:(bZ (L.getD k i0) (nZ f d (L.take k)).2).op=(L.getD k i0).op:=rfl
   rw[this]
   omega
theorem aDd (h:bB f d L out=0):bB f d (fdL f d L out) (fdO f d L out)=0/\(fdL f d L out).length=L.length/\dV (fdL f d L out)<=dV L /\
  ∀ v,Fits f d v->∃ V,iG f d v L out=(0,V)/\iG f d v (fdL f d L out) (fdO f d L out)=(0,V)/\V.length=L.length/\0<=fdO f d L out/\(fdO f d L out).toNat < L.length/\V.getD (fdO f d L out).toNat 0=V.getD out.toNat 0:=by
 obtain⟨m,ha,⟨S,hS,-,-⟩,-,-,-⟩:=aM h
 obtain⟨hm,-,-,ho0,ho1,hok⟩:=Cde.aS m
 obtain⟨-,-,hH⟩:=Vfy.pG h
 have hlen:=(aBl f d L L.length (Nat.le_refl _)).1
 rw[List.take_length] at hlen
 unfold fdL fdO
 by_cases hn:bB f d (nZ f d L).1 (foO f d L out)=0
 ·rw[if_pos hn,if_pos hn]
  have hc:=aHd (f:=f) (d:=d) hok L.length (Nat.le_refl _)
  rw[List.take_length] at hc
  refine⟨hn,hlen,hc,fun v hF=>?_⟩
  obtain⟨V,hV⟩:=aBm h hF L.length (Nat.le_refl _)
  have h1:=hV.val
  have h2:=hV.new
  have h3:=hV.st
  rw[List.take_length] at h1 h2 h3
  obtain⟨m2,-⟩:=aM hn
  obtain⟨a1,a2,a3⟩:=h3.at' out.toNat (by omega)
  refine⟨V,by rw[iG,if_pos m,if_pos hF];exact h1,by rw[iG,if_pos m2,if_pos hF];exact h2,h3.vl,a1,by show ((nZ f d L).2.getD out.toNat 0).toNat < _;omega,a3⟩
 ·rw[if_neg hn,if_neg hn]
  refine⟨h,rfl,Int.le_refl _,fun v hF=>?_⟩
  obtain⟨V,hV,hI⟩:=hH v hF
  obtain⟨V',hV'⟩:=aBm h hF L.length (Nat.le_refl _)
  have h1:=hV'.val
  have h3:=hV'.st.vl
  rw[List.take_length] at h1
  have hV2:=hV
  rw[iG,if_pos m,if_pos hF,h1] at hV
  cases hV
  exact⟨_,hV2,hV2,h3,ho0,by omega,rfl⟩
end Go.Proofs.Fld
