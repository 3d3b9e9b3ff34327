import Derived.Test.YtihbhbeaihdgnaaGreatXH
import Derived.Maps.OwnIn
import Derived.Maps.OwnSet
import Derived.DeepKeys4
import Derived.Deep.RegionHeld3
import Derived.Deep.AppendLies
import Derived.Lib.SliceRun
import Derived.Deep.CutRange
import Derived.Test.YtihbhbeaihdgnaaGreatX33
import Derived.Test.YtihbhbeaihdgnaaGreatX22
import Derived.Test.YtihbhbeaihdgnaaGreatX10
import Derived.Test.YtihbhbeaihdgnaaGreatX34
import Derived.Test.YtihbhbeaihdgnaaGreatX31
import Derived.Test.YtihbhbeaihdgnaaGreatX13
set_option maxRecDepth 100000
set_option maxHeartbeats 32000000
set_option linter.unusedVariables false
namespace Go.Proofs.Shr
open Go.RowKit Go.IntWalk Knd
open YtihbhbeaihdgnaaGreat (Wd fD Fits inpV)
open Cde (In i0 dN bY bB dX jW eH jE dA tN oW iR iA nG rG rF agA ctR usU)
open Vfy (nU aZ aL w32 dZ)
open Fld (ar vl bW dB Rv St gv dL tJ vW iQ nS bF aEw aOc mI kE bJ jQ)
variable {L:List In} {k:Nat} {d f op out:Int}
def ewB (op:Int):Bool:=op==8 || op==10 || op==15 || op==16 || op==17 || op==22 || op==23 || op==24 || op==25
def swI (n:In):In:=⟨n.op,n.b,n.a,n.c,n.k,n.s⟩
def orI (n:In):In:=if ewB n.op=true/\n.b < n.a then swI n else n
def shM (n:In)(T:List Int):In:=orI (bW n T)
def shS (s:List In × List Int)(n:In):List In × List Int:=(s.1++[shM n s.2],s.2++[((s.1.idxOf (shM n s.2):Nat):Int)])
def nO (L:List In):List In × List Int:=L.foldl shS ([],[])
theorem aEq (L:List In)(n:In):nO (L++[n])=shS (nO L) n:=by simp[nO]
theorem aCl (L:List In):∀ k,k<=L.length->(nO (L.take k)).1.length=k/\(nO (L.take k)).2.length=k
 | 0,_=>by simp[nO]
 | k+1,h=>by
  have ih:=aCl L k (by omega)
  rw[Cde.aH i0 (by omega),aEq,shS]
  simp[ih.1,ih.2]
theorem yE (hk:k < L.length):nO (L.take (k+1))=shS (nO (L.take k)) (L.getD k i0):=by rw[Cde.aH i0 hk,aEq]
theorem aRn (L:List In):(nO L).1.length=L.length/\(nO L).2.length=L.length:=by
 have:=aCl L L.length (Nat.le_refl _)
 rwa[List.take_length] at this
def shO (L:List In)(out:Int):Int:=(nO L).2.getD out.toNat 0
def sdL (f d:Int)(L:List In)(out:Int):List In:=if aZ f d (nO L).1 (shO L out)=0 then(nO L).1 else L
def sdO (f d:Int)(L:List In)(out:Int):Int:=if aZ f d (nO L).1 (shO L out)=0 then shO L out else out
theorem aXg (n:In):(orI n).op=n.op:=by unfold orI;split <;> rfl
theorem aSp (h:ewB op=true):ar op=2:=by
 simp only[ewB,Bool.or_eq_true,beq_iff_eq] at h
 rcases h with(((((((h|h)|h)|h)|h)|h)|h)|h)|h <;> subst h <;> decide
theorem aSv {n:In}{i:Nat}(h:bB n i=true):bB (orI n) i=true:=by
 unfold orI
 split
 ·rename_i he
  have h2:=aSp he.1
  have e1:(0:Int) < Spn.ar n.op:=by rw[show Spn.ar n.op=2 from h2];decide
  have e2:(1:Int) < Spn.ar n.op:=by rw[show Spn.ar n.op=2 from h2];decide
  simp only[bB,rG,Bool.and_eq_true,swI,e1,e2,decide_true] at h ⊢
  obtain⟨⟨h1,⟨h3,h4⟩,h5⟩,h6⟩:=h
  exact⟨⟨h1,⟨h4,h3⟩,h5⟩,h6⟩
 ·exact h
theorem aKn (a b:Int):bits .and .i64 a b=bits .and .i64 b a/\bits .or .i64 a b=bits .or .i64 b a/\bits .xor .i64 a b=bits .xor .i64 b a:=by
 have h1:=Spn.fV .and a b
 have h2:=Spn.fV .and b a
 have h3:=Spn.fV .or a b
 have h4:=Spn.fV .or b a
 have h5:=Spn.fV .xor a b
 have h6:=Spn.fV .xor b a
 simp only[Spn.mY.bv] at h1 h2 h3 h4 h5 h6
 refine⟨h1.trans (Eq.trans ?_ h2.symm),h3.trans (Eq.trans ?_ h4.symm),h5.trans (Eq.trans ?_ h6.symm)⟩
 ·rw[BitVec.and_comm]
 ·rw[BitVec.or_comm]
 ·rw[BitVec.xor_comm]
theorem aPi (h:ewB op=true)(k s a b c:Int):Spn.ex op k s a b c=Spn.ex op k s b a c:=by
 simp only[ewB,Bool.or_eq_true,beq_iff_eq] at h
 obtain⟨b1,b2,b3⟩:=aKn a b
 rcases h with(((((((h|h)|h)|h)|h)|h)|h)|h)|h <;> subst h
 ·show (a+b,(0:Int))=(b+a,0)
  rw[Int.add_comm]
 ·show (a*b,(0:Int))=(b*a,0)
  rw[Int.mul_comm]
 ·show (bits .and .i64 a b,(0:Int))=(bits .and .i64 b a,0)
  rw[b1]
 ·show (bits .or .i64 a b,(0:Int))=(bits .or .i64 b a,0)
  rw[b2]
 ·show (bits .xor .i64 a b,(0:Int))=(bits .xor .i64 b a,0)
  rw[b3]
 ·have e:(a=b)=(b=a):=propext eq_comm
  simp[Spn.ex,Spn.tr,e]
 ·have e:(a=b)=(b=a):=propext eq_comm
  simp[Spn.ex,Spn.tr,e]
 ·show (min a b,(0:Int))=(min b a,0)
  rw[Int.min_comm]
 ·show (max a b,(0:Int))=(max b a,0)
  rw[Int.max_comm]
theorem aR9 (h:ewB op=true)(k s x y:Int):vl op k s [x,y]=vl op k s [y,x]:=by
 have hm:Spn.iC op k s [x,y]=Spn.iC op k s [y,x]:=by
  simp only[Spn.iC,List.length_cons,List.length_nil,List.all_cons,List.all_nil,Bool.and_true]
  cases Spn.wd x <;> cases Spn.wd y <;> rfl
 have he:=aPi h k s x y 0
 unfold vl Spn.bK
 rw[hm]
 simp only[List.getD_cons_zero,List.getD_cons_succ,List.getD_nil,he]
theorem aXi (f d:Int)(v:Wd)(V:List Int)(n:In):dA f d v V (orI n)=dA f d v V n:=by
 unfold orI
 split
 ·rename_i he
  have h2:=aSp he.1
  have h2':ar (swI n).op=2:=h2
  rw[bF (n:=n) (by omega),bF (n:=swI n) (by omega),tJ h2,tJ h2']
  exact aR9 he.1 _ _ _ _
 ·rfl
theorem aFs {M:List In}{m:In}(h:M.idxOf m < M.length):M.getD (M.idxOf m) i0=m:=by
 rw[List.getD_eq_getElem?_getD,List.getElem?_eq_getElem h]
 simp
structure Si (f d:Int)(v:Wd)(L:List In)(k:Nat)(V:List Int):Prop where
 val:oW f d v (L.take k)=(0,V)
 rv:Rv f d v (nO (L.take k)).1 V
 st:St V (nO (L.take k)).2 k
 new:oW f d v (nO (L.take k)).1=(0,V)
theorem aRo {v:Wd}{V:List Int}(h:Si f d v L k V)(hk:k < L.length)(ho:bB (L.getD k i0) k=true){x:Int}(hx:dA f d v V (L.getD k i0)=(x,0)):Si f d v L (k+1) (V++[x]):=by
 have hl:=(aCl L k (by omega)).1
 have ho':bB (shM (L.getD k i0) (nO (L.take k)).2) k=true:=aSv (aEw h.st ho)
 have hx':dA f d v V (shM (L.getD k i0) (nO (L.take k)).2)=(x,0):=by rw[shM,aXi,aOc h.st ho];exact hx
 have e:nO (L.take (k+1))=shS (nO (L.take k)) (L.getD k i0):=yE hk
 refine⟨?_,?_,?_,?_⟩
 ·rw[Cde.aH i0 hk,Cde.eF,h.val,tN,if_pos rfl,hx,if_pos rfl]
 ·rw[e];exact h.rv.snoc (by rw[hl];exact ho') hx'
 ·rw[e]
  refine h.st.snoc ?_
  by_cases hi:(nO (L.take k)).1.idxOf (shM (L.getD k i0) (nO (L.take k)).2) < k
  ·right
   refine⟨⟨by omega,by omega⟩,?_⟩
   have hr:=h.rv.val ((nO (L.take k)).1.idxOf (shM (L.getD k i0) (nO (L.take k)).2)) (by rw[hl];exact hi)
   rw[aFs (by rw[hl];exact hi),hx'] at hr
   rw[gv,Int.toNat_natCast]
   exact(congrArg Prod.fst hr).symm
  ·left
   have:=List.idxOf_le_length (l:=(nO (L.take k)).1) (a:=shM (L.getD k i0) (nO (L.take k)).2)
   omega
 ·rw[e]
  show oW f d v ((nO (L.take k)).1++[_])=_
  rw[Cde.eF,h.new,tN,if_pos rfl,hx',if_pos rfl]
theorem vS {f d:Int}{v:Wd}{L:List In}{out:Int}(h:aZ f d L out=0)(hF:Fits f d v):∀ k,k<=L.length->∃ V,Si f d v L k V
 | 0,_=>⟨[],rfl,Rv.nil f d v,⟨rfl,rfl,fun i hi=>absurd hi (Nat.not_lt_zero _)⟩,rfl⟩
 | k+1,hk=>by
  obtain⟨V,hV⟩:=vS h hF k (by omega)
  obtain⟨m,ha,⟨S,hS,-,-⟩,-,-,-⟩:=aL h
  obtain⟨hm,-,-,-,-,hok⟩:=Cde.aT m
  obtain⟨V2,S2,g1,g2,g3⟩:=Vfy.rD hm hF hok ha (by rw[hS]) (k+1) hk
  have ho:=Cde.dD hok (show k < L.length by omega)
  rw[Cde.aH i0 (by omega),Cde.eF,hV.val,tN,if_pos rfl] at g1
  by_cases hz:(dA f d v V (L.getD k i0)).2=0
  ·exact⟨_,aRo hV (by omega) ho (Prod.ext rfl hz)⟩
  ·rw[if_neg hz] at g1
   exact absurd (congrArg Prod.fst g1) hz
theorem aXt (h:aZ f d L out=0)(hk:k < L.length):bB (shM (L.getD k i0) (nO (L.take k)).2) k=true:=by
 obtain⟨m,-⟩:=aL h
 obtain⟨hm,-,-,-,-,hok⟩:=Cde.aT m
 obtain⟨V,hV⟩:=vS h (Fld.yP hm) k (by omega)
 exact aSv (aEw hV.st (Cde.dD hok hk))
theorem aH3 (L:List In):∀ k,k<=L.length->eH (nO (L.take k)).1=eH (L.take k)
 | 0,_=>by simp[nO,eH]
 | k+1,hk=>by
  rw[yE (by omega),Cde.aH i0 (by omega),Cde.gD,shS,Cde.gD,aH3 L k (by omega),shM,aXg]
  rfl
theorem aEo (h:aZ f d L out=0):aZ f d (sdL f d L out) (sdO f d L out)=0/\(sdL f d L out).length=L.length/\eH (sdL f d L out)=eH L /\
  ∀ v,Fits f d v->∃ V,iR f d v L out=(0,V)/\iR f d v (sdL f d L out) (sdO f d L out)=(0,V)/\V.length=L.length/\0<=sdO f d L out/\(sdO f d L out).toNat < L.length/\V.getD (sdO f d L out).toNat 0=V.getD out.toNat 0:=by
 obtain⟨m,ha,⟨S,hS,-,-⟩,-,-,-⟩:=aL h
 obtain⟨hm,-,-,ho0,ho1,hok⟩:=Cde.aT m
 obtain⟨-,-,hH⟩:=Vfy.yN h
 have hlen:=(aRn L).1
 unfold sdL sdO
 by_cases hn:aZ f d (nO L).1 (shO L out)=0
 ·rw[if_pos hn,if_pos hn]
  have hc:=aH3 L L.length (Nat.le_refl _)
  rw[List.take_length] at hc
  refine⟨hn,hlen,hc,fun v hF=>?_⟩
  obtain⟨V,hV⟩:=vS h hF L.length (Nat.le_refl _)
  have h1:=hV.val
  have h2:=hV.new
  have h3:=hV.st
  rw[List.take_length] at h1 h2 h3
  obtain⟨m2,-⟩:=aL hn
  obtain⟨a1,a2,a3⟩:=h3.at' out.toNat (by omega)
  refine⟨V,by rw[iR,if_pos m,if_pos hF];exact h1,by rw[iR,if_pos m2,if_pos hF];exact h2,h3.vl,a1,by show ((nO L).2.getD out.toNat 0).toNat < _;omega,a3⟩
 ·rw[if_neg hn,if_neg hn]
  refine⟨h,rfl,rfl,fun v hF=>?_⟩
  obtain⟨V,hV,hI⟩:=hH v hF
  obtain⟨V',hV'⟩:=vS h hF L.length (Nat.le_refl _)
  have h1:=hV'.val
  have h3:=hV'.st.vl
  rw[List.take_length] at h1
  have hV2:=hV
  rw[iR,if_pos m,if_pos hF,h1] at hV
  cases hV
  exact⟨_,hV2,hV2,h3,ho0,by omega,rfl⟩
def gB (n:Int):Prop:=-9223372036854775808<=n/\n<=9223372036854775807
def xD (n:In):Prop:=gB n.op/\gB n.a/\gB n.b/\gB n.c/\gB n.k/\gB n.s
theorem aXf {n:In}{i:Nat}(h:bB n i=true)(hi:i<=1000):xD n:=by
 have hc:=Cde.qP h
 have ha:=Cde.aAn h
 have hop:1<=n.op/\n.op<=33:=by
  rcases(show (n.op < 1\/n.op=4\/33 < n.op)\/(1<=n.op/\n.op<=33) by omega) with h1|h1
  ·rw[Spn.aS5 h1] at ha
   omega
  ·exact h1
 simp only[bB,rG,Bool.and_eq_true,jQ,decide_eq_true_eq,decide_eq_false_iff_not] at h
 obtain⟨⟨-,⟨⟨a1,a2⟩,b1,b2⟩,c1,c2⟩,-⟩:=h
 have hr:∀ r:Int,(∀ p:Prop,(p->dL r i)->(¬p->r=0)->gB r):=by
  intro r p h1 h2
  by_cases hp:p
  ·have:=h1 hp
   unfold dL at this
   unfold gB
   omega
  ·have:=h2 hp
   unfold gB
   omega
 have hk:gB n.k/\gB n.s:=by
  unfold nG Spn.cons at hc
  unfold gB
  repeat' split at hc
  all_goals (try simp only[Bool.and_eq_true,Spn.aO,beq_iff_eq] at hc)
  all_goals first|omega|skip
  all_goals
   obtain⟨h1,h2⟩:=hc
   first
    | (have h3:=Spn.dE.1 h1;unfold w32 at h3;omega)
    | (have h3:=Spn.dE.1 h1;obtain⟨h4,h5⟩:=h3;omega)
    | omega
 exact⟨by unfold gB;omega,hr n.a _ a1 a2,hr n.b _ b1 b2,hr n.c _ c1 c2,hk.1,hk.2⟩
end Go.Proofs.Shr
namespace Go.Proofs.Shr
open Go.RowKit Go.Maps Knd
open Cde (In i0 ia)
variable {n:In} {M:List In} {V W:World} {b m:Nat}
theorem laidOut:laidOutB Tryz.prog=true:=by kernel_rfl
theorem aXq:(41:TypeId) < Tryz.prog.types.size:=of_decide_eq_true (by kernel_rfl)
theorem aX1:(match Tryz.prog.underlying 41 with|some (.array _ _)|some (.struct _)=>true|_=>false)=true:=by rw[Tryz.underlying41]
theorem aP7:Keyed Tryz.prog 41:=Keyed.of_law (deep_law_laid laidOut (m:=2) (by omega) aXq (by kernel_rfl) aX1)
theorem aLs:Tryz.prog.keyType 41=true:=by kernel_rfl
theorem aKu:Tryz.prog.cellsOf 41=6:=by kernel_rfl
theorem cells3:Tryz.prog.cellsOf 3=1:=by kernel_rfl
theorem kY {n:Int}(h:gB n):(Lit.int .i64 n).wf=true:=by
 unfold gB at h;simp[Lit.wf,IntKind.min,IntKind.max,IntKind.bits,IntKind.signed];omega
theorem oK (d:Nat){n:Int}(h:gB n):Tryz.prog.keyLits (d+1) 3 [.int .i64 n]=some [.int .i64 n]:=by
 unfold Program.keyLits
 rw[Tryz.underlying3]
 simp[kY h]
theorem aWw (d:Nat)(h:xD n):Tryz.prog.keyLits (d+1+1) 41 (ia n).toList=some [.int .i64 n.op,.int .i64 n.a,.int .i64 n.b,.int .i64 n.c,.int .i64 n.k,.int .i64 n.s]:=by
 obtain⟨h0,h1,h2,h3,h4,h5⟩:=h
 unfold Program.keyLits
 simp only[Tryz.underlying41]
 simp[aKu,cells3,oK d h0,oK d h1,oK d h2,oK d h3,oK d h4,oK d h5]
noncomputable def kl (n:In):Lit:=(keyOf Tryz.prog 41 (.agg (ia n))).getD (.bool false)
theorem fI (h:xD n):keyOf Tryz.prog 41 (.agg (ia n))=some (kl n):=by
 have:∃ l,keyOf Tryz.prog 41 (.agg (ia n))=some l:=by
  have hf:(Value.agg (ia n)).formed Tryz.prog 41=true:=by
   simp only[Value.formed,Tryz.underlying41,aKu]
   rfl
  obtain⟨k,hk⟩:∃ k,Tryz.prog.types.size+1=k+1+1:=⟨Tryz.prog.types.size-1,by have h:(41:Nat) < Tryz.prog.types.size:=aXq;omega⟩
  have hl:=aWw k h
  rw[<-hk] at hl
  refine⟨.string (keyBytes [.int .i64 n.op,.int .i64 n.a,.int .i64 n.b,.int .i64 n.c,.int .i64 n.k,.int .i64 n.s]),?_⟩
  unfold keyOf
  rw[Tryz.underlying41]
  simp only[aLs,hf,Bool.and_self,if_true,Value.cells,hl,Option.map_some]
 obtain⟨l,hl⟩:=this
 unfold kl
 rw[hl];rfl
theorem aFx {p q:In}(hp:xD p)(hq:xD q)(h:kl p=kl q):p=q:=by
 have h1:=fI hp
 have h2:=fI hq
 rw[<-h] at h2
 have:=aP7.inj h1 h2
 simp at this
 cases p;cases q
 simp_all
theorem xG {p:In}(hp:xD p):WideAt.IsKeyLit (kl p):=aP7.key (fI hp)
def yV (M:List In)(D:DataW Unit):Prop :=
 IsMap D/\∀ p:In,xD p->has D (kl p)=decide (p ∈ M)/\D.atKey (kl p) (.lit (.int .i64 0))=.lit (.int .i64 (if p ∈ M then((M.idxOf p:Nat):Int) else 0))
theorem yV.nil:yV [] (.map []):=⟨⟨_,rfl⟩,fun p _=>⟨rfl,rfl⟩⟩
theorem yV.old {D:DataW Unit}(h:yV M D)(hn:n ∈ M):yV (M++[n]) D:=by
 refine⟨h.1,fun p hp=>?_⟩
 obtain⟨h1,h2⟩:=h.2 p hp
 rw[h1,h2]
 by_cases e:p ∈ M
 ·have e2:p ∈ M++[n]:=by simp[e]
  rw[if_pos e,if_pos e2,List.idxOf_append,if_pos e]
  simp[e]
 ·have e2:p ∉ M++[n]:=by
   simp only[List.mem_append,List.mem_cons,List.not_mem_nil,or_false,not_or]
   exact⟨e,fun he=>e (by rw[he];exact hn)⟩
  rw[if_neg e,if_neg e2]
  simp[e,e2]
theorem yV.new {D:DataW Unit}(h:yV M D)(hw:xD n)(hn:n ∉ M):yV (M++[n]) (D.put (kl n) (.lit (.int .i64 ((M.length:Nat):Int)))):=by
 refine⟨h.1.put _ _,fun p hp=>?_⟩
 by_cases e:p=n
 ·subst e
  rw[has_put_same h.1 (xG hp),atKey_put_same h.1 (xG hp),if_pos (by simp),List.idxOf_append,if_neg hn]
  simp
 ·have hne:kl p≠kl n:=fun h'=>e (aFx hp hw h')
  rw[has_put_other hne,atKey_put_other hne]
  obtain⟨h1,h2⟩:=h.2 p hp
  rw[h1,h2]
  by_cases e2:p ∈ M
  ·rw[if_pos e2,if_pos (by simp[e2]),List.idxOf_append,if_pos e2]
   simp[e2]
  ·have e3:p ∉ M++[n]:=by simp[e2,e]
   rw[if_neg e2,if_neg e3]
   simp[e2,e]
def Own (W:World)(b m:Nat)(M:List In):Prop:=∃ D,W.ownsMap Tryz.prog 41 (plainElem (H:=Unit) Tryz.prog 3) b m D/\yV M D
theorem aUu (c:Int)(w:World):(Instr.makeMap 205 (some (.int .i64 c))).run Tryz.prog w=.ok (.map (some w.heap.size)) (w.alloc (.map #[] 0)):=by
 simp[Instr.makeMap,run_underlying Tryz.underlying205,go_sem]
theorem aQa (hn:xD n)(h:Own W b m M) :
  (Instr.lookup 205 (.map (some b)) (.agg (ia n)) true).run Tryz.prog W=.ok (.tuple #[.int .i64 (if n ∈ M then((M.idxOf n:Nat):Int) else 0),.bool (decide (n ∈ M))]) W:=by
 obtain⟨D,hM,hT⟩:=h
 obtain⟨v,ps,hrun,hv⟩:=hM.look_ok aP7 Tryz.underlying205 (Tryz.zeroValue3 W) (plainElem_int Tryz.underlying3 (kY (n:=0) (by unfold gB;omega))) (fI hn)
 obtain⟨c,rfl,hc,hwc⟩:=plainElem_int_inv Tryz.underlying3 hv
 obtain⟨t1,t2⟩:=hT.2 n hn
 have hc1:D.atKey (kl n) (.lit (.int .i64 0))=.lit (.int .i64 c):=congrArg Prod.fst hc
 rw[t2] at hc1
 simp only[DataW.lit.injEq,Lit.int.injEq,true_and] at hc1
 rw[hrun,t1,<-hc1]
theorem aH9 {ops:Array Oper}{rest:List Oper}{o:Oper}{a:Act}{Q:Exit->Act->World->Prop}
  (hgd:o.guard=none) (x y:Operand) (ho:o.op=.lookup 205 x y true) (hx:a.eval x=.map (some b)) (hy:a.eval y=.agg (ia n)) (h:Own V b m M) (hw:xD n)
  (hk:wpList Tryz.prog ops Q rest (a.put o.dst (.tuple #[.int .i64 (if n ∈ M then((M.idxOf n:Nat):Int) else 0),.bool (decide (n ∈ M))])) V) :
  wpList Tryz.prog ops Q (o::rest) a V:=by
 have hrun:=aQa hw h
 refine wpList_plain hgd fun K' hK'=>?_
 unfold Oper.wp
 simp[execOp,ho,hx,hy,hrun,Result.andThen]
 exact hK' _ _ (by simpa using hk)
theorem aV8 {ops:Array Oper}{rest:List Oper}{o:Oper}{a:Act}{Q:Exit->Act->World->Prop}
  (hgd:o.guard=none) (x y z:Operand) (ho:o.op=.mapUpdate 205 x y z) (hx:a.eval x=.map (some b)) (hy:a.eval y=.agg (ia n)) (k:Nat) (hz:a.eval z=.int .i64 (k:Int)) (hkM:M.length=k)
  (h:Own V b m M) (hw:xD n) (hn:n ∉ M) (hm:m<=1000) (hl:k<=1000)
  (hk:∀ w',Own w' b (m+1) (M++[n])->V.grownBy w' (some b)->wpList Tryz.prog ops Q rest (a.put o.dst undef) w') :
  wpList Tryz.prog ops Q (o::rest) a V:=by
 obtain⟨D,hM,hT⟩:=h
 refine wpList_mapUpdate_own _ hgd _ _ _ 205 ho 41 3 aP7 Tryz.underlying205 (plainElem (H:=Unit) Tryz.prog 3) b m D hx hM (by unfold maxLen;omega) _ _ (kl n) hy hz (fI hw) _ [] (plainElem_int Tryz.underlying3 (kY (n:=(k:Int)) (by unfold gB;omega))) ?_
 intro w' h1 h2
 exact hk w' ⟨_,h1,by rw[<-hkM];exact hT.new hw hn⟩ h2
theorem Own.made (W:World):Own (W.alloc (.map #[] 0)) W.heap.size 0 []:=⟨_,World.ownsMap_made W _ _ _,yV.nil⟩
theorem Own.mono {W:World}{b m m':Nat}{M:List In}(h:Own W b m M)(hm:m<=m'):Own W b m' M:=by
 obtain⟨D,h1,h2⟩:=h
 exact⟨D,h1.mono hm,h2⟩
theorem Own.old {W:World}{b m:Nat}{M:List In}{n:In}(h:Own W b m M)(hn:n ∈ M):Own W b m (M++[n]):=by
 obtain⟨D,h1,h2⟩:=h
 exact⟨D,h1,h2.old hn⟩
theorem Own.below (h:Own W b m M)(hb:Below W.heap.size W V):Own V b m M:=by
 obtain⟨D,h1,h2⟩:=h
 have hlt:=h1.lt
 obtain⟨es,c,h3,h4⟩:=h1
 exact⟨D,⟨es,c,(hb.block b hlt).trans h3,h4⟩,h2⟩
theorem Own.kept {W V:World}{b m:Nat}{M:List In}{row:Option Nat}(h:Own W b m M)(hg:W.grownBy V row)(hne:row≠some b):Own V b m M:=by
 obtain⟨D,h1,h2⟩:=h
 exact⟨D,h1.kept hg hne.symm,h2⟩
theorem Own.set (h:Own W b m M){a:Addr}(ha:b≠a.block)(u:Value):Own (W.setCell a u) b m M:=by
 obtain⟨D,h1,h2⟩:=h
 exact⟨D,h1.setCell ha u,h2⟩
theorem Own.ne_has {q:Nat}{t:TypeId}{cs:Array Value}(h:Own W b m M)(hc:aB W q t cs):b≠q:=by
 obtain⟨D,⟨es,c,h3,h4⟩,h2⟩:=h
 rintro rfl
 rw[hc] at h3
 cases h3
theorem Own.ne_row {base size n:Nat}{e:TypeId}{v:Value}{xs:List Value}(h:Own W b m M)(hr:W.ownsRow base e size v n xs):v.ownBlock≠some b:=by
 obtain⟨D,⟨es,c,h3,h4⟩,h2⟩:=h
 intro hk
 obtain⟨-,cs',fr,h5⟩:=Cde.aM hr b hk
 rw[h5] at h3
 cases h3
end Go.Proofs.Shr
namespace Go.Proofs.Shr
open Go.RowKit Go.IntWalk Knd
open Cde (In i0 ia kd cd Ins tO aJ aK)
theorem aK4 (op:Int):(ewB op=true/\(op=8\/op=10\/op=15\/op=16\/op=17\/op=22\/op=23\/op=24\/op=25))\/(ewB op=false/\(op==8)=false/\(op==10)=false/\(op==15)=false/\(op==16)=false/\(op==17)=false/\(op==22)=false/\(op==23)=false/\(op==24)=false/\(op==25)=false):=by
 cases h:ewB op
 ·right
  refine⟨rfl,?_⟩
  simpa [ewB,and_assoc] using h
 ·left
  refine⟨rfl,?_⟩
  simpa [ewB,or_assoc] using h
theorem aPv (op:Int)(W:World):Calls Tryz.prog 215 #[.int .i64 op] W fun e W'=>e=.returned (.bool (ewB op))/\W'=W:=by
 rcases aK4 op with⟨h,h2⟩|⟨h,q0,q1,q2,q3,q4,q5,q6,q7,q8⟩
 ·rw[h]
  clear h
  rcases h2 with rfl|rfl|rfl|rfl|rfl|rfl|rfl|rfl|rfl <;>
  ·go_enter Tryz.func215,Tryz.ntmps215
   go_wp2_with fail
   go_ret
   exact⟨rfl,rfl⟩
 ·rw[h]
  clear h
  go_enter Tryz.func215,Tryz.ntmps215
  go_wp2_with fail
  go_ret
  exact⟨rfl,rfl⟩
theorem aU8 {n:In}(h:ewB n.op=true)(h2:n.b < n.a):orI n=⟨n.op,n.b,n.a,n.c,n.k,n.s⟩:=if_pos ⟨h,h2⟩
theorem aU6 {n:In}(h:ewB n.op=false):orI n=n:=if_neg (by rw[h];rintro⟨h,-⟩;cases h)
theorem aU7 {n:In}(h2:¬n.b < n.a):orI n=n:=if_neg fun h=>h2 h.2
theorem aFi (n:In)(W:World):Calls Tryz.prog 185 #[.agg (ia n)] W fun e W'=>e=.returned (.agg (ia (orI n)))/\Below W.heap.size W W':=by
 have HE:=aA fun W=>aPv n.op W
 cases h:ewB n.op
 ·rw[aU6 h]
  rw[h] at HE
  clear h
  go_enter Tryz.func185,Tryz.ntmps185
  go_wp2_with (go_at_call 215;refine(HE.o _).mono ?_;rintro e w' ⟨rfl,rfl⟩)
  exact bodyPost_ret (v:=.agg (ia _)) (by simp[results,Tryz.results185,go_sem]) rfl ⟨rfl,by first|exact bel (aC W _) (aC _ _)|exact bel ((aC W _).setCell (by simp) _) (aC _ _)|exact bel (((aC W _).setCell (by simp) _).setCell (by simp) _) (aC _ _)⟩
 ·by_cases h2:n.b < n.a
  ·rw[aU8 h h2]
   rw[h] at HE
   have q:decide (n.b < n.a)=true:=by simpa using h2
   clear h h2
   go_enter Tryz.func185,Tryz.ntmps185
   go_wp2_with (go_at_call 215;refine(HE.o _).mono ?_;rintro e w' ⟨rfl,rfl⟩)
   exact bodyPost_ret (v:=.agg (ia _)) (by simp[results,Tryz.results185,go_sem]) rfl ⟨rfl,by first|exact bel (aC W _) (aC _ _)|exact bel ((aC W _).setCell (by simp) _) (aC _ _)|exact bel (((aC W _).setCell (by simp) _).setCell (by simp) _) (aC _ _)⟩
  ·rw[aU7 h2]
   rw[h] at HE
   have q:decide (n.b < n.a)=false:=by simpa using h2
   clear h h2
   go_enter Tryz.func185,Tryz.ntmps185
   go_wp2_with (go_at_call 215;refine(HE.o _).mono ?_;rintro e w' ⟨rfl,rfl⟩)
   exact bodyPost_ret (v:=.agg (ia _)) (by simp[results,Tryz.results185,go_sem]) rfl ⟨rfl,by first|exact bel (aC W _) (aC _ _)|exact bel ((aC W _).setCell (by simp) _) (aC _ _)|exact bel (((aC W _).setCell (by simp) _).setCell (by simp) _) (aC _ _)⟩
end Go.Proofs.Shr
namespace Go.Proofs.Shr
open Go.RowKit Go.IntWalk Knd
open Cde (In i0 ia kd cd Ins tO aJ aD aQ aK bB dX aF bU i6 zA aH)
open Vfy (aZ rC rA)
variable {V V' W w w':World} {b base c n size:Nat} {mv tv v:Value} {L M:List In} {e t:TypeId} {xs:List Value} {cs cv:Array Value} {T:List Int}
theorem kP:(Tryz.prog.info? 41).map (fun i=>(i.zero,i.size,i.bytes))=some (some (.agg (ia i0)),6,48):=by kernel_rfl
theorem lJ {n:In}(h:aB W b 41 (ia n)):∀ j u,(i6 n)[j]?=some u->W.cell? ((⟨b,0,none⟩:Addr).add j)=some u:=by
 intro j u hu
 rw[Addr.add_lit,Nat.zero_add]
 exact h.cell j (by rw[<-hu];simp[ia,i6])
theorem jH {ops:Array Oper}{rest:List Oper}{o:Oper}{a:Act}{Q:Exit->Act->World->Prop}
  (hgd:o.guard=none) (s x:Operand) (ho:o.op=.call { callee:=.builtin .append,args:=#[s,x],argTypes:=#[24,24] })
  (hs:a.eval s=v) (hen:V.ownsRow base 41 6 v L.length (bU L)) (hbase:base<=V.heap.size) (b:Nat) (n:In) (hx:a.eval x=.slice (some ⟨b,0,none⟩) 1 1) (hc:aB V b 41 (ia n)) (h3:L.length<=2000000)
  (h:∀ g cap w',w'.ownsRow base 41 6 (.slice (some ⟨g,0,none⟩) (L.length+1) cap) (L++[n]).length (bU (L++[n]))->V.grownBy w' v.ownBlock->wpList Tryz.prog ops Q rest (a.put o.dst (.slice (some ⟨g,0,none⟩) (L.length+1) cap)) w') :
  wpList Tryz.prog ops Q (o::rest) a V:=by
 obtain⟨i0',hi0,hz0,hz1,hz2⟩:=Spn.info_parts kP
 refine wpList_append_lies V hgd s x 24 ho base 41 i0' _ 6 48 Tryz.underlying24 hi0 hz0 hz1 hz2 rfl (by omega) v L.length (bU L) hs hen ⟨b,0,none⟩ 1 1 (i6 n) hx rfl (lJ hc) (by simp[Value.oneCell',i6]) (by omega) (by unfold maxLen;omega) (by omega) hbase V.heap.size rfl ?_
 intro g cap w' hown hgrow hat hlt
 refine h g cap w' ?_ hgrow
 rw[Cde.oJ,List.length_append]
 exact hown
theorem gH {L:List Int}{ops:Array Oper}{rest:List Oper}{o:Oper}{a:Act}{Q:Exit->Act->World->Prop}
  (hgd:o.guard=none) (s x:Operand) (ho:o.op=.call { callee:=.builtin .append,args:=#[s,x],argTypes:=#[42,42] })
  (hs:a.eval s=v) (hen:V.ownsRow base 3 1 v L.length (eG L)) (hbase:base<=V.heap.size) (b:Nat) (p:Int) (hx:a.eval x=.slice (some ⟨b,0,none⟩) 1 1) (hc:aB V b 3 #[.int .i64 p]) (h3:L.length<=2000000)
  (h:∀ g cap w',w'.ownsRow base 3 1 (.slice (some ⟨g,0,none⟩) (L.length+1) cap) (L++[p]).length (eG (L++[p]))->V.grownBy w' v.ownBlock->wpList Tryz.prog ops Q rest (a.put o.dst (.slice (some ⟨g,0,none⟩) (L.length+1) cap)) w') :
  wpList Tryz.prog ops Q (o::rest) a V:=by
 obtain⟨i0',hi0,hz0,hz1,hz2⟩:=info_parts info3
 refine wpList_append_lies V hgd s x 42 ho base 3 i0' _ 1 8 Tryz.underlying42 hi0 hz0 hz1 hz2 rfl (by omega) v L.length (eG L) hs hen ⟨b,0,none⟩ 1 1 [.int .i64 p] hx rfl (Cde.jI hc) (by simp[Value.oneCell']) (by omega) (by unfold maxLen;omega) (by omega) hbase V.heap.size rfl ?_
 intro g cap w' hown hgrow hat hlt
 exact h g cap w' (by rw[List.length_append];simpa using hown) hgrow
theorem oC (h:Ins w none n c L):n=0/\c=0/\L=[]:=by
 have h1:=h.nil rfl
 have h2:=h.le
 have h3:=h.len
 exact⟨by omega,h1,List.eq_nil_of_length_eq_zero (by omega)⟩
theorem iU {a:Option Addr}(hb:Ins w a n c L)(hn:n<=2000000)(hn0:0 < n) :
  Calls Tryz.prog 36 #[.slice a n c] w fun e w'=>∃ a' c',e=.returned (.slice a' n c')/\w'.ownsRow w.heap.size 41 6 (.slice a' n c') n (bU L)/\Below w.heap.size w w':=by
 obtain⟨i0',hi,hz0,hz1,hz2⟩:=Spn.info_parts kP
 have heq:∀(w:World) (a:Option Addr) (n c:Nat),(binOp .eql 24 (.slice a n c) (.slice none 0 0)).run Tryz.prog w=.ok (.bool a.isNone) w:=fun w a n c=>Lib.run_eql_slice_nil w 24 41 a n c 0 0 Tryz.underlying24
 cases a with
 | none =>
  obtain⟨rfl,-,-⟩:=oC hb
  omega
 | some ad =>
  have hl:(bU L).length=n*6:=by rw[Cde.sG,hb.len]
  have hbel:Below w.heap.size w (w.alloc (.cells #[] 41)):=aC _ _
  have HBel:=aA hbel
  have HN:=aA ((hb.later hbel).news ad rfl)
  have HO:Hid ((w.alloc (.cells #[] 41)).ownsRow w.heap.size 41 6 (.slice (some ⟨w.heap.size,0,none⟩) 0 0) 0 []):=aA ⟨rfl,.inr ⟨w.heap.size,0,#[],rfl,Nat.le_refl _,heap_alloc_new w _,Nat.le_refl _,Nat.zero_le _,rfl,rfl⟩⟩
  have HL:=aA hl
  clear hb hbel hl
  go_enter Tryz.func36,Tryz.ntmps36
  go_wp2_with (at_builtin;refine wpList_append_lies _ rfl _ _ 24 rfl w.heap.size 41 i0' _ 6 48 Tryz.underlying24 hi hz0 hz1 hz2 rfl (by omega) (.slice (some ⟨w.heap.size,0,none⟩) 0 0) 0 [] rfl HO.o ad n c (bU L) rfl HL.o HN.o (Cde.aBq L) hn0 (by unfold maxLen;omega) (by omega) (by simp) _ rfl ?_;intro g cap w2 hown hgr hat hlt)
  rw[Nat.zero_add,List.nil_append] at hown
  have HO2:=aA hown
  have HB2:=aA (HBel.o.grown hgr HBel.o.size (fun k h=>by cases h;exact Nat.le_refl _))
  clear hown hgr hat hlt
  go_wp2_with fail
  go_ret
  exact⟨_,_,rfl,HO2.o,HB2.o⟩
theorem own_ne (h:W.ownsRow base e size v n xs)(hb:aB W b t cs)(ht:t≠e):v.ownBlock≠some b:=by
 intro hk
 obtain⟨-,cs',fr,h2⟩:=Cde.aM h b hk
 rw[hb] at h2
 cases h2
 exact ht rfl
theorem aP (h:V.ownsRow base e size v n xs)(hg:V.grownBy w' v.ownBlock)(hb:aB V b t cs)(ht:t≠e):aB w' b t cs :=
 hb.kept hg fun he=>own_ne h hb ht he.symm
theorem gM {base':Nat}{e':TypeId}{size' n':Nat}{v':Value}{xs':List Value}(h:V.ownsRow base e size v n xs)(h':V.ownsRow base' e' size' v' n' xs')(ht:e≠e')(hg:V.grownBy w' v.ownBlock):w'.ownsRow base' e' size' v' n' xs':=by
 refine h'.kept hg ?_
 cases hv:v'.ownBlock with
 | none=>exact .inl rfl
 | some q =>
  right
  intro hq
  obtain⟨-,cs,fr,h1⟩:=Cde.aM h q hq.symm
  obtain⟨-,cs',fr',h2⟩:=Cde.aM h' q hv
  rw[h1] at h2
  cases h2
  exact ht rfl
abbrev bZ:Array Value:=#[.int .i64 0,.int .i64 0,.slice none 0 0,.int .i64 0]
structure Fb (W V:World)(cv:Array Value)(mv tv:Value)(M:List In)(T:List Int):Prop where
 c:aB V W.heap.size 26 cv
 o:aB V (W.heap.size+1) 26 bZ
 m:V.ownsRow W.heap.size 41 6 mv M.length (bU M)
 t:V.ownsRow W.heap.size 3 1 tv T.length (eG T)
 lo:Below W.heap.size W V
theorem Fb.below {W V V':World}{cv:Array Value}{mv tv:Value}{M:List In}{T:List Int}(h:Fb W V cv mv tv M T)(hb:Below V.heap.size V V'):Fb W V' cv mv tv M T :=
 ⟨h.c.below hb,h.o.below hb,Cde.bD h.m hb,Cde.bD h.t hb,bel h.lo hb⟩
theorem Fb.growM {mv':Value}{M':List In}(h:Fb W V cv mv tv M T)(hg:V.grownBy w' mv.ownBlock)(hO:w'.ownsRow W.heap.size 41 6 mv' M'.length (bU M')):Fb W w' cv mv' tv M' T :=
 ⟨aP h.m hg h.c (by decide),aP h.m hg h.o (by decide),hO,gM h.m h.t (by decide) hg,h.lo.grown hg h.lo.size fun k hk=>(Cde.aM h.m k hk).1⟩
theorem Fb.growT {tv':Value}{T':List Int}(h:Fb W V cv mv tv M T)(hg:V.grownBy w' tv.ownBlock)(hO:w'.ownsRow W.heap.size 3 1 tv' T'.length (eG T')):Fb W w' cv mv tv' M T' :=
 ⟨aP h.t hg h.c (by decide),aP h.t hg h.o (by decide),gM h.t h.m (by decide) hg,hO,h.lo.grown hg h.lo.size fun k hk=>(Cde.aM h.t k hk).1⟩
abbrev s6 (w:World)(b:Nat)(n:In):World :=
 (((((w.setCell ⟨b,0,none⟩ (.int .i64 n.op)).setCell ⟨b,1,none⟩ (.int .i64 n.a)).setCell ⟨b,2,none⟩ (.int .i64 n.b)).setCell ⟨b,3,none⟩ (.int .i64 n.c)).setCell ⟨b,4,none⟩ (.int .i64 n.k)).setCell ⟨b,5,none⟩ (.int .i64 n.s)
theorem aGf {n m:In}(h:aB w b 41 (ia n)):aB (s6 w b m) b 41 (ia m):=(((((h.set 0 _).set 1 _).set 2 _).set 3 _).set 4 _).set 5 _
theorem xZ {q:Nat}(h:aB w q t cs)(hq:q≠b)(m:In):aB (s6 w b m) q t cs :=
 (((((h.other (p:=⟨b,0,none⟩) hq _).other (p:=⟨b,1,none⟩) hq _).other (p:=⟨b,2,none⟩) hq _).other (p:=⟨b,3,none⟩) hq _).other (p:=⟨b,4,none⟩) hq _).other (p:=⟨b,5,none⟩) hq _
theorem yA (h:w.ownsRow base e size v n xs)(hq:v.ownBlock≠some b)(m:In):(s6 w b m).ownsRow base e size v n xs :=
 ownsRow_setCell_other (ownsRow_setCell_other (ownsRow_setCell_other (ownsRow_setCell_other (ownsRow_setCell_other (ownsRow_setCell_other h (a:=⟨b,0,none⟩) hq _) (a:=⟨b,1,none⟩) hq _) (a:=⟨b,2,none⟩) hq _) (a:=⟨b,3,none⟩) hq _) (a:=⟨b,4,none⟩) hq _) (a:=⟨b,5,none⟩) hq _
theorem aGe (h:Below w.heap.size w V)(hb:w.heap.size<=b)(m:In):Below w.heap.size w (s6 V b m) :=
 (((((h.setCell (p:=⟨b,0,none⟩) hb _).setCell (p:=⟨b,1,none⟩) hb _).setCell (p:=⟨b,2,none⟩) hb _).setCell (p:=⟨b,3,none⟩) hb _).setCell (p:=⟨b,4,none⟩) hb _).setCell (p:=⟨b,5,none⟩) hb _
structure Fc (W V:World)(cv:Array Value)(mv tv:Value)(M:List In)(T:List Int)(b:Nat)(n:In):Prop where
 f:Fb W V cv mv tv M T
 n:aB V b 41 (ia n)
 hb:W.heap.size+1 < b
 hm:mv.ownBlock≠some b
theorem Fc.below {W V V':World}{cv:Array Value}{mv tv:Value}{M:List In}{T:List Int}{b:Nat}{n:In}(h:Fc W V cv mv tv M T b n)(hb:Below V.heap.size V V'):Fc W V' cv mv tv M T b n:=⟨h.f.below hb,h.n.below hb,h.hb,h.hm⟩
theorem Fc.put {n:In}(h:Fc W V cv mv tv M T b n)(m:In):Fc W (s6 V b m) cv mv tv M T b m :=
 have hb:=h.hb
 ⟨⟨xZ h.f.c (by omega) m,xZ h.f.o (by omega) m,yA h.f.m h.hm m,yA h.f.t (own_ne h.f.t h.n (by decide)) m,aGe h.f.lo (by omega) m⟩,aGf h.n,hb,h.hm⟩
theorem Fb.with (h:Fb W V cv mv tv M T)(n:In):Fc W (V.alloc (.cells (ia n) 41)) cv mv tv M T V.heap.size n :=
 ⟨h.below (aC _ _),aB.new V 41 (ia n),h.o.lt,fun hk=>by
  obtain⟨-,cs,fr,h1⟩:=Cde.aM h.m _ hk
  have:=(Array.getElem?_eq_some_iff.1 h1).1
  omega⟩
theorem Fb.ints {a:Option Addr}{k:Nat}(h:Fb W V cv mv (.slice a k c) M T)(hk:T.length=k):Ints V a k c T:=by
 obtain⟨a',c',e,hi,-⟩:=Ints.of_owns h.t
 cases e
 rw[hk] at hi
 exact hi
theorem aCm {n:In}(h:aB W b t (ia n)):W.frozen? ⟨b,0,none⟩=false/\W.frozen? ⟨b,1,none⟩=false/\W.frozen? ⟨b,2,none⟩=false/\W.frozen? ⟨b,3,none⟩=false/\W.frozen? ⟨b,4,none⟩=false/\W.frozen? ⟨b,5,none⟩=false :=
 ⟨h.frozen 0,h.frozen 1,h.frozen 2,h.frozen 3,h.frozen 4,h.frozen 5⟩
theorem aBw (n:Nat)(h:n<=1024):∃ cs:Array Value,cs.size=n*6/\∀ w:World,(Instr.makeSlice 24 (.int .i64 0) (.int .i64 n)).run Tryz.prog w=.ok (.slice (some ⟨w.heap.size,0,none⟩) 0 n) (w.alloc (.cells cs 41)):=by
 obtain⟨i0',hi,hz0,hz1,hz2⟩:=Spn.info_parts kP
 refine⟨madeCells (Value.agg (ia i0)).cells (n*6),size_madeCells _ _,fun w=>?_⟩
 have:=run_make w 24 41 i0' _ Tryz.underlying24 hi hz0 .i64 .i64 0 n (by omega) (by omega) (by rw[hz2];omega) (by omega)
 rw[hz1] at this
 simp only[Int.toNat_natCast] at this
 exact this
theorem aBy (n:Nat)(h:n<=1024):∃ cs:Array Value,cs.size=n*1/\∀ w:World,(Instr.makeSlice 42 (.int .i64 0) (.int .i64 n)).run Tryz.prog w=.ok (.slice (some ⟨w.heap.size,0,none⟩) 0 n) (w.alloc (.cells cs 3)):=by
 obtain⟨i0',hi,hz0,hz1,hz2⟩:=info_parts info3
 refine⟨madeCells (Value.int .i64 0).cells (n*1),size_madeCells _ _,fun w=>?_⟩
 have:=run_make w 42 3 i0' _ Tryz.underlying42 hi hz0 .i64 .i64 0 n (by omega) (by omega) (by rw[hz2];omega) (by omega)
 rw[hz1] at this
 simp only[Int.toNat_natCast] at this
 exact this
theorem iZ (h:aB V b e cs)(hs:cs.size=n*size)(hb:W.heap.size<=b)(hn:n<=1024):V.ownsRow W.heap.size e size (.slice (some ⟨b,0,none⟩) 0 n) 0 [] :=
 ⟨by simp,.inr ⟨b,n,cs,rfl,hb,h,Nat.zero_le _,by unfold maxLen;omega,hs,by simp⟩⟩
structure Fh (W V:World)(cv wv rv:Array Value):Prop where
 c:aB V W.heap.size 26 cv
 w:aB V (W.heap.size+1) 26 wv
 r:aB V (W.heap.size+1+1) 26 rv
 lo:Below W.heap.size W V
theorem Fh.below {W V V':World}{cv wv rv:Array Value}(h:Fh W V cv wv rv)(hb:Below V.heap.size V V'):Fh W V' cv wv rv:=⟨h.c.below hb,h.w.below hb,h.r.below hb,bel h.lo hb⟩
abbrev s4 (w:World)(b:Nat)(x y z u:Value):World:=(((w.setCell ⟨b,0,none⟩ x).setCell ⟨b,1,none⟩ y).setCell ⟨b,2,none⟩ z).setCell ⟨b,3,none⟩ u
theorem Fh.put {wv:Array Value}{p q r s:Value}(h:Fh W V cv wv #[p,q,r,s])(x y z u:Value):Fh W (s4 V (W.heap.size+1+1) x y z u) cv wv #[x,y,z,u]:=by
 refine⟨?_,?_,(((h.r.set 0 x).set 1 y).set 2 z).set 3 u,?_⟩
 ·exact(((h.c.other (p:=⟨W.heap.size+1+1,0,none⟩) (by simp;omega) _).other (p:=⟨W.heap.size+1+1,1,none⟩) (by simp;omega) _).other (p:=⟨W.heap.size+1+1,2,none⟩) (by simp;omega) _).other (p:=⟨W.heap.size+1+1,3,none⟩) (by simp;omega) _
 ·exact(((h.w.other (p:=⟨W.heap.size+1+1,0,none⟩) (by simp) _).other (p:=⟨W.heap.size+1+1,1,none⟩) (by simp) _).other (p:=⟨W.heap.size+1+1,2,none⟩) (by simp) _).other (p:=⟨W.heap.size+1+1,3,none⟩) (by simp) _
 ·exact(((h.lo.setCell (p:=⟨W.heap.size+1+1,0,none⟩) (by simp;omega) _).setCell (p:=⟨W.heap.size+1+1,1,none⟩) (by simp;omega) _).setCell (p:=⟨W.heap.size+1+1,2,none⟩) (by simp;omega) _).setCell (p:=⟨W.heap.size+1+1,3,none⟩) (by simp;omega) _
theorem bQ (h:aB W b t cs):W.frozen? ⟨b,0,none⟩=false/\W.frozen? ⟨b,1,none⟩=false/\W.frozen? ⟨b,2,none⟩=false/\W.frozen? ⟨b,3,none⟩=false:=⟨h.frozen 0,h.frozen 1,h.frozen 2,h.frozen 3⟩
theorem iL (h:w.ownsRow base e size v n xs)(hq:v.ownBlock≠some b)(x y z u:Value):(s4 w b x y z u).ownsRow base e size v n xs :=
 ownsRow_setCell_other (ownsRow_setCell_other (ownsRow_setCell_other (ownsRow_setCell_other h (a:=⟨b,0,none⟩) hq _) (a:=⟨b,1,none⟩) hq _) (a:=⟨b,2,none⟩) hq _) (a:=⟨b,3,none⟩) hq _
theorem aIx (f d o1 o2:Int){a1 a2:Option Addr}{n1 n2 c1 c2:Nat}(hM:Ins W a1 n1 c1 M)(hL:Ins W a2 n2 c2 L)(hn0:0 < n2)(hn:n2<=1000) :
  Calls Tryz.prog 157 #[.agg (cd f d a1 n1 c1 o1),.agg (cd f d a2 n2 c2 o2)] W fun e W' =>
   (aZ f d M o1=0/\e=.returned (.agg (cd f d a1 n1 c1 o1))/\Below W.heap.size W W') \/
   (aZ f d M o1≠0/\∃ a' c',e=.returned (.agg (cd f d a' n2 c' o2))/\W'.ownsRow W.heap.size 41 6 (.slice a' n2 c') n2 (bU L)/\Below W.heap.size W W'):=by
 have b1:=aC W (.cells (cd f d a1 n1 c1 o1) 26)
 have b2:=bel b1 (aC _ (.cells (cd f d a2 n2 c2 o2) 26))
 have b3:=bel b2 (aC _ (.cells bZ 26))
 have h3:=aB.new ((W.alloc (.cells (cd f d a1 n1 c1 o1) 26)).alloc (.cells (cd f d a2 n2 c2 o2) 26)) 26 bZ
 rw[World.size_alloc,World.size_alloc] at h3
 have HF0:Hid (Fh W (((W.alloc (.cells (cd f d a1 n1 c1 o1) 26)).alloc (.cells (cd f d a2 n2 c2 o2) 26)).alloc (.cells bZ 26)) (cd f d a1 n1 c1 o1) (cd f d a2 n2 c2 o2) bZ) :=
  aA ⟨((aB.new W 26 (cd f d a1 n1 c1 o1)).alloc (.cells (cd f d a2 n2 c2 o2) 26)).alloc (.cells bZ 26),(aK W (.cells (cd f d a1 n1 c1 o1) 26) 26 (cd f d a2 n2 c2 o2)).alloc (.cells bZ 26),h3,b3⟩
 have HV:=aA (Vfy.dV f d o1 (hM.later b3))
 have HLI:=aA hL
 clear b1 b2 b3 h3 hM hL
 go_enter Tryz.func157,Tryz.ntmps157
 go_wp2_with fail
 refine HV.o.mono ?_
 rintro e V1 ⟨ga,gc,rfl,hS,hb,-,-⟩
 obtain⟨m,hm⟩:∃ m,rC f d M o1=m:=⟨_,rfl⟩
 obtain⟨co,hco⟩:∃ co,rA f d M o1=co:=⟨_,rfl⟩
 obtain⟨er,her⟩:∃ er,aZ f d M o1=er:=⟨_,rfl⟩
 rw[hm,hco,her]
 have HEr:=aA her
 have hb2:=aC V1 (.cells #[.slice ga m gc,.int .i64 co,.int .i64 0] 35)
 have HF1:=aA ((HF0.o.below hb).below hb2)
 obtain⟨x0,x1,x2,x3⟩:=aD (HF0.o.below hb).c
 obtain⟨w0,w1,w2,w3⟩:=aD (HF0.o.below hb).w
 obtain⟨p0,p1,p2,p3⟩:=aD (HF0.o.below hb).r
 have z0:=(HF0.o.below hb).c.lt
 have z1:=(HF0.o.below hb).w.lt
 have z2:=(HF0.o.below hb).r.lt
 clear hm hco her hb hb2 hS HV HF0
 by_cases h0:er=0
 ·have hr:(er==0)=true:=by simpa using h0
  go_upto_region 3 with fail
  obtain⟨V2,hV2⟩:∃ V2,V1.alloc (.cells #[.slice ga m gc,.int .i64 co,.int .i64 0] 35)=V2:=⟨_,rfl⟩
  rw[hV2] at HF1 ⊢
  clear x0 x1 x2 x3 w0 w1 w2 w3 p0 p1 p2 p3 z0 z1 z2 hV2
  obtain⟨x0,x1,x2,x3⟩:=aD HF1.o.c
  obtain⟨p0,p1,p2,p3⟩:=aD HF1.o.r
  obtain⟨r0,r1,r2,r3⟩:=bQ HF1.o.r
  obtain⟨V3,hV3⟩:∃ V3,(((V2.setCell ⟨W.heap.size+1+1,0,none⟩ (.int .i64 f)).setCell ⟨W.heap.size+1+1,1,none⟩ (.int .i64 d)).setCell ⟨W.heap.size+1+1,2,none⟩ (.slice a1 n1 c1)).setCell ⟨W.heap.size+1+1,3,none⟩ (.int .i64 o1)=V3:=⟨_,rfl⟩
  have HF2:Hid (Fh W V3 (cd f d a1 n1 c1 o1) (cd f d a2 n2 c2 o2) (cd f d a1 n1 c1 o1)):=aA (by rw[<-hV3];exact HF1.o.put (.int .i64 f) (.int .i64 d) (.slice a1 n1 c1) (.int .i64 o1))
  go_wp2_with fail
  obtain⟨q0,q1,q2,q3⟩:=aD HF2.o.r
  exact bodyPost_ret (v:=.agg (cd f d a1 n1 c1 o1)) (by simp[results,Tryz.results157,go_sem,q0,q1,q2,q3]) rfl (.inl ⟨HEr.o.trans h0,rfl,HF2.o.lo⟩)
 ·have hr:(er==0)=false:=by simpa using h0
  go_upto_region 4 with fail
  obtain⟨V2,hV2⟩:∃ V2,V1.alloc (.cells #[.slice ga m gc,.int .i64 co,.int .i64 0] 35)=V2:=⟨_,rfl⟩
  rw[hV2] at HF1 ⊢
  clear x0 x1 x2 x3 w0 w1 w2 w3 p0 p1 p2 p3 z0 z1 z2 hV2
  obtain⟨x0,x1,x2,x3⟩:=aD HF1.o.w
  have HCl:=aA (iU ((HLI.o.later HF1.o.lo).later (aF V2)) (by omega) hn0)
  have HS:=aA fun V3 (hb:Below V2.drew.heap.size V2.drew V3)=>(HF1.o.below (bel (aF V2) hb))
  go_region_held3 (fun w'=>w'.cell? ⟨W.heap.size+1,0,none⟩=some (.int .i64 f)/\w'.cell? ⟨W.heap.size+1,1,none⟩=some (.int .i64 d)/\w'.cell? ⟨W.heap.size+1,2,none⟩=some (.slice a2 n2 c2)/\w'.cell? ⟨W.heap.size+1,3,none⟩=some (.int .i64 o2))
   (first|exact⟨x0,x1,x2,x3⟩|exact⟨k0,k1,k2,k3⟩|go_keep)
   ((first
    | (go_at_call 36;refine HCl.o.mono ?_;rintro e V3 ⟨a',c',rfl,hO,hb⟩;have HF3:=aA (HS.o V3 hb);obtain⟨k0,k1,k2,k3⟩:=aD HF3.o.w;obtain⟨p0,p1,p2,p3⟩:=aD HF3.o.r;obtain⟨r0,r1,r2,r3⟩:=bQ HF3.o.r)))
  all_goals
   have HO3:=aA (Cde.cO hO (show W.heap.size<=V2.drew.heap.size from HF1.o.lo.size))
   clear k0 k1 k2 k3 p0 p1 p2 p3 r0 r1 r2 r3 hO hb HCl HS x0 x1 x2 x3
   have hq:=own_ne HO3.o HF3.o.r (by decide)
   have HO4:=aA (iL HO3.o hq (.int .i64 f) (.int .i64 d) (.slice a' n2 c') (.int .i64 o2))
   have HF4:=aA (HF3.o.put (.int .i64 f) (.int .i64 d) (.slice a' n2 c') (.int .i64 o2))
   obtain⟨V4,hV4⟩:∃ V4,(((V3.setCell ⟨W.heap.size+1+1,0,none⟩ (.int .i64 f)).setCell ⟨W.heap.size+1+1,1,none⟩ (.int .i64 d)).setCell ⟨W.heap.size+1+1,2,none⟩ (.slice a' n2 c')).setCell ⟨W.heap.size+1+1,3,none⟩ (.int .i64 o2)=V4:=⟨_,rfl⟩
   unfold s4 at HO4 HF4
   rw[hV4] at HO4 HF4 ⊢
   clear hV4 hq HF3 HO3
   go_wp2_with fail
   obtain⟨q0,q1,q2,q3⟩:=aD HF4.o.r
   exact bodyPost_ret (v:=.agg (cd f d a' n2 c' o2)) (by simp[results,Tryz.results157,go_sem,q0,q1,q2,q3]) rfl (.inr ⟨by rw[HEr.o];exact h0,_,_,rfl,HO4.o,HF4.o.lo⟩)
end Go.Proofs.Shr
