import Derived.Test.YtijbmdmeiancgaaGreatXH
import Derived.Maps.OwnIn
import Derived.Maps.OwnSet
import Derived.DeepKeys4
import Derived.Deep.RegionHeld3
import Derived.Deep.AppendLies
import Derived.Lib.SliceRun
import Derived.Deep.CutRange
import Derived.Test.YtijbmdmeiancgaaGreatX22
import Derived.Test.YtijbmdmeiancgaaGreatX18
import Derived.Test.YtijbmdmeiancgaaGreatX00
import Derived.Test.YtijbmdmeiancgaaGreatX23
import Derived.Test.YtijbmdmeiancgaaGreatX20
import Derived.Test.YtijbmdmeiancgaaGreatX02
set_option maxRecDepth 100000
set_option maxHeartbeats 32000000
set_option linter.unusedVariables false
namespace Go.Proofs.Shr
open Go.RowKit Go.IntWalk Knd
open YtijbmdmeiancgaaGreat (Wd tF Fits inpV)
open Cde (In i0 dP dG bJ eO jG eP lL fB qY rF nG jM kZ oP nI agA ctR usU)
open Vfy (nM bL aT w32 eT)
open Fld (ar vl bS dK Rv St gv bO qW sG fA kW bT vT aBj mD kE bV iE)
variable {L:List In} {k:Nat} {d f op out:Int}
def ewB (op:Int):Bool:=op==8 || op==10 || op==15 || op==16 || op==17 || op==22 || op==23 || op==24 || op==25
def swI (n:In):In:=⟨n.op,n.b,n.a,n.c,n.k,n.s⟩
def orI (n:In):In:=if ewB n.op=true/\n.b < n.a then swI n else n
def shM (n:In)(T:List Int):In:=orI (bS n T)
def shS (s:List In × List Int)(n:In):List In × List Int:=(s.1++[shM n s.2],s.2++[((s.1.idxOf (shM n s.2):Nat):Int)])
def lK (L:List In):List In × List Int:=L.foldl shS ([],[])
theorem zZ (L:List In)(n:In):lK (L++[n])=shS (lK L) n:=by simp[lK]
theorem zH (L:List In):∀ k,k<=L.length->(lK (L.take k)).1.length=k/\(lK (L.take k)).2.length=k
 | 0,_=>by simp[lK]
 | k+1,h=>by
  have ih:=zH L k (by omega)
  rw[Cde.aM i0 (by omega),zZ,shS]
  simp[ih.1,ih.2]
theorem pU (hk:k < L.length):lK (L.take (k+1))=shS (lK (L.take k)) (L.getD k i0):=by rw[Cde.aM i0 hk,zZ]
theorem aLq (L:List In):(lK L).1.length=L.length/\(lK L).2.length=L.length:=by
 have:=zH L L.length (Nat.le_refl _)
 rwa[List.take_length] at this
def shO (L:List In)(out:Int):Int:=(lK L).2.getD out.toNat 0
def yU (f d:Int)(L:List In)(out:Int):List In:=if bL f d (lK L).1 (shO L out)=0 then(lK L).1 else L
def xP (f d:Int)(L:List In)(out:Int):Int:=if bL f d (lK L).1 (shO L out)=0 then shO L out else out
theorem aQ2 (n:In):(orI n).op=n.op:=by unfold orI;split <;> rfl
theorem aOc (h:ewB op=true):ar op=2:=by
 simp only[ewB,Bool.or_eq_true,beq_iff_eq] at h
 rcases h with(((((((h|h)|h)|h)|h)|h)|h)|h)|h <;> subst h <;> decide
theorem aN4 {n:In}{i:Nat}(h:bJ n i=true):bJ (orI n) i=true:=by
 unfold orI
 split
 ·rename_i he
  have h2:=aOc he.1
  have e1:(0:Int) < Spn.ar n.op:=by rw[show Spn.ar n.op=2 from h2];decide
  have e2:(1:Int) < Spn.ar n.op:=by rw[show Spn.ar n.op=2 from h2];decide
  simp only[bJ,oP,Bool.and_eq_true,swI,e1,e2,decide_true] at h ⊢
  obtain⟨⟨h1,⟨h3,h4⟩,h5⟩,h6⟩:=h
  exact⟨⟨h1,⟨h4,h3⟩,h5⟩,h6⟩
 ·exact h
theorem aIm (a b:Int):bits .and .i64 a b=bits .and .i64 b a/\bits .or .i64 a b=bits .or .i64 b a/\bits .xor .i64 a b=bits .xor .i64 b a:=by
 have h1:=Spn.gJ .and a b
 have h2:=Spn.gJ .and b a
 have h3:=Spn.gJ .or a b
 have h4:=Spn.gJ .or b a
 have h5:=Spn.gJ .xor a b
 have h6:=Spn.gJ .xor b a
 simp only[Spn.kQ.bv] at h1 h2 h3 h4 h5 h6
 refine⟨h1.trans (Eq.trans ?_ h2.symm),h3.trans (Eq.trans ?_ h4.symm),h5.trans (Eq.trans ?_ h6.symm)⟩
 ·rw[BitVec.and_comm]
 ·rw[BitVec.or_comm]
 ·rw[BitVec.xor_comm]
theorem aMn (h:ewB op=true)(k s a b c:Int):Spn.ex op k s a b c=Spn.ex op k s b a c:=by
 simp only[ewB,Bool.or_eq_true,beq_iff_eq] at h
 obtain⟨b1,b2,b3⟩:=aIm a b
 rcases h with(((((((h|h)|h)|h)|h)|h)|h)|h)|h <;> subst h
 ·show (a+b,(0:Int))=(b+a,0)
  rw[Int.add_comm]
 ·show (a*b,(0:Int))=(b*a,0)
  rw[Int.mul_comm]
 ·show (bits .and .i64 a b,(0:Int))=(bits .and .i64 b a,0)
  rw[b1]
 ·show (bits .or .i64 a b,(0:Int))=(bits .or .i64 b a,0)
  rw[b2]
 ·show (bits .xor .i64 a b,(0:Int))=(bits .xor .i64 b a,0)
  rw[b3]
 ·have e:(a=b)=(b=a):=propext eq_comm
  simp[Spn.ex,Spn.tr,e]
 ·have e:(a=b)=(b=a):=propext eq_comm
  simp[Spn.ex,Spn.tr,e]
 ·show (min a b,(0:Int))=(min b a,0)
  rw[Int.min_comm]
 ·show (max a b,(0:Int))=(max b a,0)
  rw[Int.max_comm]
theorem aLp (h:ewB op=true)(k s x y:Int):vl op k s [x,y]=vl op k s [y,x]:=by
 have hm:Spn.fG op k s [x,y]=Spn.fG op k s [y,x]:=by
  simp only[Spn.fG,List.length_cons,List.length_nil,List.all_cons,List.all_nil,Bool.and_true]
  cases Spn.wd x <;> cases Spn.wd y <;> rfl
 have he:=aMn h k s x y 0
 unfold vl Spn.aR
 rw[hm]
 simp only[List.getD_cons_zero,List.getD_cons_succ,List.getD_nil,he]
theorem aQ8 (f d:Int)(v:Wd)(V:List Int)(n:In):fB f d v V (orI n)=fB f d v V n:=by
 unfold orI
 split
 ·rename_i he
  have h2:=aOc he.1
  have h2':ar (swI n).op=2:=h2
  rw[bT (n:=n) (by omega),bT (n:=swI n) (by omega),qW h2,qW h2']
  exact aLp he.1 _ _ _ _
 ·rfl
theorem aC1 {M:List In}{m:In}(h:M.idxOf m < M.length):M.getD (M.idxOf m) i0=m:=by
 rw[List.getD_eq_getElem?_getD,List.getElem?_eq_getElem h]
 simp
structure Si (f d:Int)(v:Wd)(L:List In)(k:Nat)(V:List Int):Prop where
 val:rF f d v (L.take k)=(0,V)
 rv:Rv f d v (lK (L.take k)).1 V
 st:St V (lK (L.take k)).2 k
 new:rF f d v (lK (L.take k)).1=(0,V)
theorem aMw {v:Wd}{V:List Int}(h:Si f d v L k V)(hk:k < L.length)(ho:bJ (L.getD k i0) k=true){x:Int}(hx:fB f d v V (L.getD k i0)=(x,0)):Si f d v L (k+1) (V++[x]):=by
 have hl:=(zH L k (by omega)).1
 have ho':bJ (shM (L.getD k i0) (lK (L.take k)).2) k=true:=aN4 (vT h.st ho)
 have hx':fB f d v V (shM (L.getD k i0) (lK (L.take k)).2)=(x,0):=by rw[shM,aQ8,aBj h.st ho];exact hx
 have e:lK (L.take (k+1))=shS (lK (L.take k)) (L.getD k i0):=pU hk
 refine⟨?_,?_,?_,?_⟩
 ·rw[Cde.aM i0 hk,Cde.fE,h.val,qY,if_pos rfl,hx,if_pos rfl]
 ·rw[e];exact h.rv.snoc (by rw[hl];exact ho') hx'
 ·rw[e]
  refine h.st.snoc ?_
  by_cases hi:(lK (L.take k)).1.idxOf (shM (L.getD k i0) (lK (L.take k)).2) < k
  ·right
   refine⟨⟨by omega,by omega⟩,?_⟩
   have hr:=h.rv.val ((lK (L.take k)).1.idxOf (shM (L.getD k i0) (lK (L.take k)).2)) (by rw[hl];exact hi)
   rw[aC1 (by rw[hl];exact hi),hx'] at hr
   rw[gv,Int.toNat_natCast]
   exact(congrArg Prod.fst hr).symm
  ·left
   have:=List.idxOf_le_length (l:=(lK (L.take k)).1) (a:=shM (L.getD k i0) (lK (L.take k)).2)
   omega
 ·rw[e]
  show rF f d v ((lK (L.take k)).1++[_])=_
  rw[Cde.fE,h.new,qY,if_pos rfl,hx',if_pos rfl]
theorem tV {f d:Int}{v:Wd}{L:List In}{out:Int}(h:bL f d L out=0)(hF:Fits f d v):∀ k,k<=L.length->∃ V,Si f d v L k V
 | 0,_=>⟨[],rfl,Rv.nil f d v,⟨rfl,rfl,fun i hi=>absurd hi (Nat.not_lt_zero _)⟩,rfl⟩
 | k+1,hk=>by
  obtain⟨V,hV⟩:=tV h hF k (by omega)
  obtain⟨m,ha,⟨S,hS,-,-⟩,-,-,-⟩:=aT h
  obtain⟨hm,-,-,-,-,hok⟩:=Cde.bD m
  obtain⟨V2,S2,g1,g2,g3⟩:=Vfy.wC hm hF hok ha (by rw[hS]) (k+1) hk
  have ho:=Cde.bW hok (show k < L.length by omega)
  rw[Cde.aM i0 (by omega),Cde.fE,hV.val,qY,if_pos rfl] at g1
  by_cases hz:(fB f d v V (L.getD k i0)).2=0
  ·exact⟨_,aMw hV (by omega) ho (Prod.ext rfl hz)⟩
  ·rw[if_neg hz] at g1
   exact absurd (congrArg Prod.fst g1) hz
theorem aSe (h:bL f d L out=0)(hk:k < L.length):bJ (shM (L.getD k i0) (lK (L.take k)).2) k=true:=by
 obtain⟨m,-⟩:=aT h
 obtain⟨hm,-,-,-,-,hok⟩:=Cde.bD m
 obtain⟨V,hV⟩:=tV h (Fld.kP hm) k (by omega)
 exact aN4 (vT hV.st (Cde.bW hok hk))
theorem aE1 (L:List In):∀ k,k<=L.length->eP (lK (L.take k)).1=eP (L.take k)
 | 0,_=>by simp[lK,eP]
 | k+1,hk=>by
  rw[pU (by omega),Cde.aM i0 (by omega),Cde.gL,shS,Cde.gL,aE1 L k (by omega),shM,aQ2]
  rfl
theorem uO (h:bL f d L out=0):bL f d (yU f d L out) (xP f d L out)=0/\(yU f d L out).length=L.length/\eP (yU f d L out)=eP L /\
  ∀ v,Fits f d v->∃ V,nG f d v L out=(0,V)/\nG f d v (yU f d L out) (xP f d L out)=(0,V)/\V.length=L.length/\0<=xP f d L out/\(xP f d L out).toNat < L.length/\V.getD (xP f d L out).toNat 0=V.getD out.toNat 0:=by
 obtain⟨m,ha,⟨S,hS,-,-⟩,-,-,-⟩:=aT h
 obtain⟨hm,-,-,ho0,ho1,hok⟩:=Cde.bD m
 obtain⟨-,-,hH⟩:=Vfy.vH h
 have hlen:=(aLq L).1
 unfold yU xP
 by_cases hn:bL f d (lK L).1 (shO L out)=0
 ·rw[if_pos hn,if_pos hn]
  have hc:=aE1 L L.length (Nat.le_refl _)
  rw[List.take_length] at hc
  refine⟨hn,hlen,hc,fun v hF=>?_⟩
  obtain⟨V,hV⟩:=tV h hF L.length (Nat.le_refl _)
  have h1:=hV.val
  have h2:=hV.new
  have h3:=hV.st
  rw[List.take_length] at h1 h2 h3
  obtain⟨m2,-⟩:=aT hn
  obtain⟨a1,a2,a3⟩:=h3.at' out.toNat (by omega)
  refine⟨V,by rw[nG,if_pos m,if_pos hF];exact h1,by rw[nG,if_pos m2,if_pos hF];exact h2,h3.vl,a1,by show ((lK L).2.getD out.toNat 0).toNat < _;omega,a3⟩
 ·rw[if_neg hn,if_neg hn]
  refine⟨h,rfl,rfl,fun v hF=>?_⟩
  obtain⟨V,hV,hI⟩:=hH v hF
  obtain⟨V',hV'⟩:=tV h hF L.length (Nat.le_refl _)
  have h1:=hV'.val
  have h3:=hV'.st.vl
  rw[List.take_length] at h1
  have hV2:=hV
  rw[nG,if_pos m,if_pos hF,h1] at hV
  cases hV
  exact⟨_,hV2,hV2,h3,ho0,by omega,rfl⟩
def nH (n:Int):Prop:=-9223372036854775808<=n/\n<=9223372036854775807
def vP (n:In):Prop:=nH n.op/\nH n.a/\nH n.b/\nH n.c/\nH n.k/\nH n.s
theorem aQq {n:In}{i:Nat}(h:bJ n i=true)(hi:i<=1000):vP n:=by
 have hc:=Cde.nV h
 have ha:=Cde.vI h
 have hop:1<=n.op/\n.op<=33:=by
  rcases(show (n.op < 1\/n.op=4\/33 < n.op)\/(1<=n.op/\n.op<=33) by omega) with h1|h1
  ·rw[Spn.yM h1] at ha
   omega
  ·exact h1
 simp only[bJ,oP,Bool.and_eq_true,iE,decide_eq_true_eq,decide_eq_false_iff_not] at h
 obtain⟨⟨-,⟨⟨a1,a2⟩,b1,b2⟩,c1,c2⟩,-⟩:=h
 have hr:∀ r:Int,(∀ p:Prop,(p->bO r i)->(¬p->r=0)->nH r):=by
  intro r p h1 h2
  by_cases hp:p
  ·have:=h1 hp
   unfold bO at this
   unfold nH
   omega
  ·have:=h2 hp
   unfold nH
   omega
 have hk:nH n.k/\nH n.s:=by
  unfold kZ Spn.cons at hc
  unfold nH
  repeat' split at hc
  all_goals (try simp only[Bool.and_eq_true,Spn.aP,beq_iff_eq] at hc)
  all_goals first|omega|skip
  all_goals
   obtain⟨h1,h2⟩:=hc
   first
    | (have h3:=Spn.bE.1 h1;unfold w32 at h3;omega)
    | (have h3:=Spn.bE.1 h1;obtain⟨h4,h5⟩:=h3;omega)
    | omega
 exact⟨by unfold nH;omega,hr n.a _ a1 a2,hr n.b _ b1 b2,hr n.c _ c1 c2,hk.1,hk.2⟩
end Go.Proofs.Shr
namespace Go.Proofs.Shr
open Go.RowKit Go.Maps Knd
open Cde (In i0 ia)
variable {n:In} {M:List In} {V W:World} {b m:Nat}
theorem laidOut:laidOutB Tryz.prog=true:=by kernel_rfl
theorem aSs:(57:TypeId) < Tryz.prog.types.size:=of_decide_eq_true (by kernel_rfl)
theorem aSk:(match Tryz.prog.underlying 57 with|some (.array _ _)|some (.struct _)=>true|_=>false)=true:=by rw[Tryz.underlying57]
theorem aNe:Keyed Tryz.prog 57:=Keyed.of_law (deep_law_laid laidOut (m:=2) (by omega) aSs (by kernel_rfl) aSk)
theorem aIf:Tryz.prog.keyType 57=true:=by kernel_rfl
theorem aK4:Tryz.prog.cellsOf 57=6:=by kernel_rfl
theorem cells3:Tryz.prog.cellsOf 3=1:=by kernel_rfl
theorem wB {n:Int}(h:nH n):(Lit.int .i64 n).wf=true:=by
 unfold nH at h;simp[Lit.wf,IntKind.min,IntKind.max,IntKind.bits,IntKind.signed];omega
theorem yB (d:Nat){n:Int}(h:nH n):Tryz.prog.keyLits (d+1) 3 [.int .i64 n]=some [.int .i64 n]:=by
 unfold Program.keyLits
 rw[Tryz.underlying3]
 simp[wB h]
theorem aR2 (d:Nat)(h:vP n):Tryz.prog.keyLits (d+1+1) 57 (ia n).toList=some [.int .i64 n.op,.int .i64 n.a,.int .i64 n.b,.int .i64 n.c,.int .i64 n.k,.int .i64 n.s]:=by
 obtain⟨h0,h1,h2,h3,h4,h5⟩:=h
 unfold Program.keyLits
 simp only[Tryz.underlying57]
 simp[aK4,cells3,yB d h0,yB d h1,yB d h2,yB d h3,yB d h4,yB d h5]
noncomputable def kl (n:In):Lit:=(keyOf Tryz.prog 57 (.agg (ia n))).getD (.bool false)
theorem nX (h:vP n):keyOf Tryz.prog 57 (.agg (ia n))=some (kl n):=by
 have:∃ l,keyOf Tryz.prog 57 (.agg (ia n))=some l:=by
  have hf:(Value.agg (ia n)).formed Tryz.prog 57=true:=by
   simp only[Value.formed,Tryz.underlying57,aK4]
   rfl
  obtain⟨k,hk⟩:∃ k,Tryz.prog.types.size+1=k+1+1:=⟨Tryz.prog.types.size-1,by have h:(57:Nat) < Tryz.prog.types.size:=aSs;omega⟩
  have hl:=aR2 k h
  rw[<-hk] at hl
  refine⟨.string (keyBytes [.int .i64 n.op,.int .i64 n.a,.int .i64 n.b,.int .i64 n.c,.int .i64 n.k,.int .i64 n.s]),?_⟩
  unfold keyOf
  rw[Tryz.underlying57]
  simp only[aIf,hf,Bool.and_self,if_true,Value.cells,hl,Option.map_some]
 obtain⟨l,hl⟩:=this
 unfold kl
 rw[hl];rfl
theorem aP2 {p q:In}(hp:vP p)(hq:vP q)(h:kl p=kl q):p=q:=by
 have h1:=nX hp
 have h2:=nX hq
 rw[<-h] at h2
 have:=aNe.inj h1 h2
 simp at this
 cases p;cases q
 simp_all
theorem aI7 {p:In}(hp:vP p):WideAt.IsKeyLit (kl p):=aNe.key (nX hp)
def Tab (M:List In)(D:DataW Unit):Prop :=
 IsMap D/\∀ p:In,vP p->has D (kl p)=decide (p ∈ M)/\D.atKey (kl p) (.lit (.int .i64 0))=.lit (.int .i64 (if p ∈ M then((M.idxOf p:Nat):Int) else 0))
theorem Tab.nil:Tab [] (.map []):=⟨⟨_,rfl⟩,fun p _=>⟨rfl,rfl⟩⟩
theorem Tab.old {D:DataW Unit}(h:Tab M D)(hn:n ∈ M):Tab (M++[n]) D:=by
 refine⟨h.1,fun p hp=>?_⟩
 obtain⟨h1,h2⟩:=h.2 p hp
 rw[h1,h2]
 by_cases e:p ∈ M
 ·have e2:p ∈ M++[n]:=by simp[e]
  rw[if_pos e,if_pos e2,List.idxOf_append,if_pos e]
  simp[e]
 ·have e2:p ∉ M++[n]:=by
   simp only[List.mem_append,List.mem_cons,List.not_mem_nil,or_false,not_or]
   exact⟨e,fun he=>e (by rw[he];exact hn)⟩
  rw[if_neg e,if_neg e2]
  simp[e,e2]
theorem Tab.new {D:DataW Unit}(h:Tab M D)(hw:vP n)(hn:n ∉ M):Tab (M++[n]) (D.put (kl n) (.lit (.int .i64 ((M.length:Nat):Int)))):=by
 refine⟨h.1.put _ _,fun p hp=>?_⟩
 by_cases e:p=n
 ·subst e
  rw[has_put_same h.1 (aI7 hp),atKey_put_same h.1 (aI7 hp),if_pos (by simp),List.idxOf_append,if_neg hn]
  simp
 ·have hne:kl p≠kl n:=fun h'=>e (aP2 hp hw h')
  rw[has_put_other hne,atKey_put_other hne]
  obtain⟨h1,h2⟩:=h.2 p hp
  rw[h1,h2]
  by_cases e2:p ∈ M
  ·rw[if_pos e2,if_pos (by simp[e2]),List.idxOf_append,if_pos e2]
   simp[e2]
  ·have e3:p ∉ M++[n]:=by simp[e2,e]
   rw[if_neg e2,if_neg e3]
   simp[e2,e]
def Own (W:World)(b m:Nat)(M:List In):Prop:=∃ D,W.ownsMap Tryz.prog 57 (plainElem (H:=Unit) Tryz.prog 3) b m D/\Tab M D
theorem aS9 (c:Int)(w:World):(Instr.makeMap 143 (some (.int .i64 c))).run Tryz.prog w=.ok (.map (some w.heap.size)) (w.alloc (.map #[] 0)):=by
 simp[Instr.makeMap,run_underlying Tryz.underlying143,go_sem]
theorem aLz (hn:vP n)(h:Own W b m M) :
  (Instr.lookup 143 (.map (some b)) (.agg (ia n)) true).run Tryz.prog W=.ok (.tuple #[.int .i64 (if n ∈ M then((M.idxOf n:Nat):Int) else 0),.bool (decide (n ∈ M))]) W:=by
 obtain⟨D,hM,hT⟩:=h
 obtain⟨v,ps,hrun,hv⟩:=hM.look_ok aNe Tryz.underlying143 (Tryz.zeroValue3 W) (plainElem_int Tryz.underlying3 (wB (n:=0) (by unfold nH;omega))) (nX hn)
 obtain⟨c,rfl,hc,hwc⟩:=plainElem_int_inv Tryz.underlying3 hv
 obtain⟨t1,t2⟩:=hT.2 n hn
 have hc1:D.atKey (kl n) (.lit (.int .i64 0))=.lit (.int .i64 c):=congrArg Prod.fst hc
 rw[t2] at hc1
 simp only[DataW.lit.injEq,Lit.int.injEq,true_and] at hc1
 rw[hrun,t1,<-hc1]
theorem aD0 {ops:Array Oper}{rest:List Oper}{o:Oper}{a:Act}{Q:Exit->Act->World->Prop}
  (hgd:o.guard=none) (x y:Operand) (ho:o.op=.lookup 143 x y true) (hx:a.eval x=.map (some b)) (hy:a.eval y=.agg (ia n)) (h:Own V b m M) (hw:vP n)
  (hk:wpList Tryz.prog ops Q rest (a.put o.dst (.tuple #[.int .i64 (if n ∈ M then((M.idxOf n:Nat):Int) else 0),.bool (decide (n ∈ M))])) V) :
  wpList Tryz.prog ops Q (o::rest) a V:=by
 have hrun:=aLz hw h
 refine wpList_plain hgd fun K' hK'=>?_
 unfold Oper.wp
 simp[execOp,ho,hx,hy,hrun,Result.andThen]
 exact hK' _ _ (by simpa using hk)
theorem aPz {ops:Array Oper}{rest:List Oper}{o:Oper}{a:Act}{Q:Exit->Act->World->Prop}
  (hgd:o.guard=none) (x y z:Operand) (ho:o.op=.mapUpdate 143 x y z) (hx:a.eval x=.map (some b)) (hy:a.eval y=.agg (ia n)) (k:Nat) (hz:a.eval z=.int .i64 (k:Int)) (hkM:M.length=k)
  (h:Own V b m M) (hw:vP n) (hn:n ∉ M) (hm:m<=1000) (hl:k<=1000)
  (hk:∀ w',Own w' b (m+1) (M++[n])->V.grownBy w' (some b)->wpList Tryz.prog ops Q rest (a.put o.dst undef) w') :
  wpList Tryz.prog ops Q (o::rest) a V:=by
 obtain⟨D,hM,hT⟩:=h
 refine wpList_mapUpdate_own _ hgd _ _ _ 143 ho 57 3 aNe Tryz.underlying143 (plainElem (H:=Unit) Tryz.prog 3) b m D hx hM (by unfold maxLen;omega) _ _ (kl n) hy hz (nX hw) _ [] (plainElem_int Tryz.underlying3 (wB (n:=(k:Int)) (by unfold nH;omega))) ?_
 intro w' h1 h2
 exact hk w' ⟨_,h1,by rw[<-hkM];exact hT.new hw hn⟩ h2
theorem Own.made (W:World):Own (W.alloc (.map #[] 0)) W.heap.size 0 []:=⟨_,World.ownsMap_made W _ _ _,Tab.nil⟩
theorem Own.mono {W:World}{b m m':Nat}{M:List In}(h:Own W b m M)(hm:m<=m'):Own W b m' M:=by
 obtain⟨D,h1,h2⟩:=h
 exact⟨D,h1.mono hm,h2⟩
theorem Own.old {W:World}{b m:Nat}{M:List In}{n:In}(h:Own W b m M)(hn:n ∈ M):Own W b m (M++[n]):=by
 obtain⟨D,h1,h2⟩:=h
 exact⟨D,h1,h2.old hn⟩
theorem Own.below (h:Own W b m M)(hb:Below W.heap.size W V):Own V b m M:=by
 obtain⟨D,h1,h2⟩:=h
 have hlt:=h1.lt
 obtain⟨es,c,h3,h4⟩:=h1
 exact⟨D,⟨es,c,(hb.block b hlt).trans h3,h4⟩,h2⟩
theorem Own.kept {W V:World}{b m:Nat}{M:List In}{row:Option Nat}(h:Own W b m M)(hg:W.grownBy V row)(hne:row≠some b):Own V b m M:=by
 obtain⟨D,h1,h2⟩:=h
 exact⟨D,h1.kept hg hne.symm,h2⟩
theorem Own.set (h:Own W b m M){a:Addr}(ha:b≠a.block)(u:Value):Own (W.setCell a u) b m M:=by
 obtain⟨D,h1,h2⟩:=h
 exact⟨D,h1.setCell ha u,h2⟩
theorem Own.ne_has {q:Nat}{t:TypeId}{cs:Array Value}(h:Own W b m M)(hc:aI W q t cs):b≠q:=by
 obtain⟨D,⟨es,c,h3,h4⟩,h2⟩:=h
 rintro rfl
 rw[hc] at h3
 cases h3
theorem Own.ne_row {base size n:Nat}{e:TypeId}{v:Value}{xs:List Value}(h:Own W b m M)(hr:W.ownsRow base e size v n xs):v.ownBlock≠some b:=by
 obtain⟨D,⟨es,c,h3,h4⟩,h2⟩:=h
 intro hk
 obtain⟨-,cs',fr,h5⟩:=Cde.aQ hr b hk
 rw[h5] at h3
 cases h3
end Go.Proofs.Shr
namespace Go.Proofs.Shr
open Go.RowKit Go.IntWalk Knd
open Cde (In i0 ia kd cd Ins kM aJ aL)
theorem aBk (op:Int):(ewB op=true/\(op=8\/op=10\/op=15\/op=16\/op=17\/op=22\/op=23\/op=24\/op=25))\/(ewB op=false/\(op==8)=false/\(op==10)=false/\(op==15)=false/\(op==16)=false/\(op==17)=false/\(op==22)=false/\(op==23)=false/\(op==24)=false/\(op==25)=false):=by
 cases h:ewB op
 ·right
  refine⟨rfl,?_⟩
  simpa [ewB,and_assoc] using h
 ·left
  refine⟨rfl,?_⟩
  simpa [ewB,or_assoc] using h
theorem aMk (op:Int)(W:World):Calls Tryz.prog 161 #[.int .i64 op] W fun e W'=>e=.returned (.bool (ewB op))/\W'=W:=by
 rcases aBk op with⟨h,h2⟩|⟨h,q0,q1,q2,q3,q4,q5,q6,q7,q8⟩
 ·rw[h]
  clear h
  rcases h2 with rfl|rfl|rfl|rfl|rfl|rfl|rfl|rfl|rfl <;>
  ·go_enter Tryz.func161,Tryz.ntmps161
   go_wp2_with fail
   go_ret
   exact⟨rfl,rfl⟩
 ·rw[h]
  clear h
  go_enter Tryz.func161,Tryz.ntmps161
  go_wp2_with fail
  go_ret
  exact⟨rfl,rfl⟩
theorem aKn {n:In}(h:ewB n.op=true)(h2:n.b < n.a):orI n=⟨n.op,n.b,n.a,n.c,n.k,n.s⟩:=if_pos ⟨h,h2⟩
theorem aJg {n:In}(h:ewB n.op=false):orI n=n:=if_neg (by rw[h];rintro⟨h,-⟩;cases h)
theorem aH2 {n:In}(h2:¬n.b < n.a):orI n=n:=if_neg fun h=>h2 h.2
theorem aDa (n:In)(W:World):Calls Tryz.prog 135 #[.agg (ia n)] W fun e W'=>e=.returned (.agg (ia (orI n)))/\Below W.heap.size W W':=by
 have HE:=aC fun W=>aMk n.op W
 cases h:ewB n.op
 ·rw[aJg h]
  rw[h] at HE
  clear h
  go_enter Tryz.func135,Tryz.ntmps135
  go_wp2_with (go_at_call 161;refine(HE.o _).mono ?_;rintro e w' ⟨rfl,rfl⟩)
  exact bodyPost_ret (v:=.agg (ia _)) (by simp[results,Tryz.results135,go_sem]) rfl ⟨rfl,by first|exact bel (aH W _) (aH _ _)|exact bel ((aH W _).setCell (by simp) _) (aH _ _)|exact bel (((aH W _).setCell (by simp) _).setCell (by simp) _) (aH _ _)⟩
 ·by_cases h2:n.b < n.a
  ·rw[aKn h h2]
   rw[h] at HE
   have q:decide (n.b < n.a)=true:=by simpa using h2
   clear h h2
   go_enter Tryz.func135,Tryz.ntmps135
   go_wp2_with (go_at_call 161;refine(HE.o _).mono ?_;rintro e w' ⟨rfl,rfl⟩)
   exact bodyPost_ret (v:=.agg (ia _)) (by simp[results,Tryz.results135,go_sem]) rfl ⟨rfl,by first|exact bel (aH W _) (aH _ _)|exact bel ((aH W _).setCell (by simp) _) (aH _ _)|exact bel (((aH W _).setCell (by simp) _).setCell (by simp) _) (aH _ _)⟩
  ·rw[aH2 h2]
   rw[h] at HE
   have q:decide (n.b < n.a)=false:=by simpa using h2
   clear h h2
   go_enter Tryz.func135,Tryz.ntmps135
   go_wp2_with (go_at_call 161;refine(HE.o _).mono ?_;rintro e w' ⟨rfl,rfl⟩)
   exact bodyPost_ret (v:=.agg (ia _)) (by simp[results,Tryz.results135,go_sem]) rfl ⟨rfl,by first|exact bel (aH W _) (aH _ _)|exact bel ((aH W _).setCell (by simp) _) (aH _ _)|exact bel (((aH W _).setCell (by simp) _).setCell (by simp) _) (aH _ _)⟩
end Go.Proofs.Shr
namespace Go.Proofs.Shr
open Go.RowKit Go.IntWalk Knd
open Cde (In i0 ia kd cd Ins kM aJ aG bB aL bJ eO aD bG i6 zA aM)
open Vfy (bL kN kK)
variable {V V' W w w':World} {b base c n size:Nat} {mv tv v:Value} {L M:List In} {a:Option Addr} {e t:TypeId} {xs:List Value} {cs cv:Array Value} {T:List Int}
theorem gY:Tryz.prog.follows .mixedOrders=true:=by kernel_rfl
theorem iK:(Tryz.prog.info? 57).map (fun i=>(i.zero,i.size,i.bytes))=some (some (.agg (ia i0)),6,48):=by kernel_rfl
theorem jH {n:In}(h:aI W b 57 (ia n)):∀ j u,(i6 n)[j]?=some u->W.cell? ((⟨b,0,none⟩:Addr).add j)=some u:=by
 intro j u hu
 rw[Addr.add_lit,Nat.zero_add]
 exact h.cell j (by rw[<-hu];simp[ia,i6])
theorem fT {ops:Array Oper}{rest:List Oper}{o:Oper}{a:Act}{Q:Exit->Act->World->Prop}
  (hgd:o.guard=none) (s x:Operand) (ho:o.op=.call { callee:=.builtin .append,args:=#[s,x],argTypes:=#[24,24] })
  (hs:a.eval s=v) (hen:V.ownsRow base 57 6 v L.length (bG L)) (hbase:base<=V.heap.size) (b:Nat) (n:In) (hx:a.eval x=.slice (some ⟨b,0,none⟩) 1 1) (hc:aI V b 57 (ia n)) (h3:L.length<=2000000)
  (h:∀ g cap w',w'.ownsRow base 57 6 (.slice (some ⟨g,0,none⟩) (L.length+1) cap) (L++[n]).length (bG (L++[n]))->V.grownBy w' v.ownBlock->wpList Tryz.prog ops Q rest (a.put o.dst (.slice (some ⟨g,0,none⟩) (L.length+1) cap)) w') :
  wpList Tryz.prog ops Q (o::rest) a V:=by
 obtain⟨i0',hi0,hz0,hz1,hz2⟩:=Spn.info_parts iK
 refine wpList_append_lies V hgd s x 24 ho base 57 i0' _ 6 48 Tryz.underlying24 hi0 hz0 hz1 hz2 rfl (by omega) v L.length (bG L) hs hen ⟨b,0,none⟩ 1 1 (i6 n) hx rfl (jH hc) (by simp[Value.oneCell',i6]) (by omega) (by unfold maxLen;omega) (by omega) hbase V.heap.size rfl ?_
 intro g cap w' hown hgrow hat hlt
 refine h g cap w' ?_ hgrow
 rw[Cde.iO,List.length_append]
 exact hown
theorem bP {L:List Int}{ops:Array Oper}{rest:List Oper}{o:Oper}{a:Act}{Q:Exit->Act->World->Prop}
  (hgd:o.guard=none) (s x:Operand) (ho:o.op=.call { callee:=.builtin .append,args:=#[s,x],argTypes:=#[27,27] })
  (hs:a.eval s=v) (hen:V.ownsRow base 3 1 v L.length (bY L)) (hbase:base<=V.heap.size) (b:Nat) (p:Int) (hx:a.eval x=.slice (some ⟨b,0,none⟩) 1 1) (hc:aI V b 3 #[.int .i64 p]) (h3:L.length<=2000000)
  (h:∀ g cap w',w'.ownsRow base 3 1 (.slice (some ⟨g,0,none⟩) (L.length+1) cap) (L++[p]).length (bY (L++[p]))->V.grownBy w' v.ownBlock->wpList Tryz.prog ops Q rest (a.put o.dst (.slice (some ⟨g,0,none⟩) (L.length+1) cap)) w') :
  wpList Tryz.prog ops Q (o::rest) a V:=by
 obtain⟨i0',hi0,hz0,hz1,hz2⟩:=info_parts info3
 refine wpList_append_lies V hgd s x 27 ho base 3 i0' _ 1 8 Tryz.underlying27 hi0 hz0 hz1 hz2 rfl (by omega) v L.length (bY L) hs hen ⟨b,0,none⟩ 1 1 [.int .i64 p] hx rfl (Cde.oC hc) (by simp[Value.oneCell']) (by omega) (by unfold maxLen;omega) (by omega) hbase V.heap.size rfl ?_
 intro g cap w' hown hgrow hat hlt
 exact h g cap w' (by rw[List.length_append];simpa using hown) hgrow
theorem mO (h:Ins w none n c L):n=0/\c=0/\L=[]:=by
 have h1:=h.nil rfl
 have h2:=h.le
 have h3:=h.len
 exact⟨by omega,h1,List.eq_nil_of_length_eq_zero (by omega)⟩
theorem iX (hb:Ins w a n c L)(hn:n<=2000000)(hn0:0 < n) :
  Calls Tryz.prog 24 #[.slice a n c] w fun e w'=>∃ a' c',e=.returned (.slice a' n c')/\w'.ownsRow w.heap.size 57 6 (.slice a' n c') n (bG L)/\Below w.heap.size w w':=by
 obtain⟨i0',hi,hz0,hz1,hz2⟩:=Spn.info_parts iK
 have heq:∀(w:World) (a:Option Addr) (n c:Nat),(binOp .eql 24 (.slice a n c) (.slice none 0 0)).run Tryz.prog w=.ok (.bool a.isNone) w:=fun w a n c=>Lib.run_eql_slice_nil w 24 57 a n c 0 0 Tryz.underlying24
 cases a with
 | none =>
  obtain⟨rfl,-,-⟩:=mO hb
  omega
 | some ad =>
  have hl:(bG L).length=n*6:=by rw[Cde.gV,hb.len]
  have hbel:Below w.heap.size w (w.alloc (.cells #[] 57)):=aH _ _
  have HBel:=aC hbel
  have HN:=aC ((hb.later hbel).news ad rfl)
  have HO:Hid ((w.alloc (.cells #[] 57)).ownsRow w.heap.size 57 6 (.slice (some ⟨w.heap.size,0,none⟩) 0 0) 0 []):=aC ⟨rfl,.inr ⟨w.heap.size,0,#[],rfl,Nat.le_refl _,heap_alloc_new w _,Nat.le_refl _,Nat.zero_le _,rfl,rfl⟩⟩
  have HL:=aC hl
  clear hb hbel hl
  go_enter Tryz.func24,Tryz.ntmps24
  go_wp2_with (at_builtin;refine wpList_append_lies _ rfl _ _ 24 rfl w.heap.size 57 i0' _ 6 48 Tryz.underlying24 hi hz0 hz1 hz2 rfl (by omega) (.slice (some ⟨w.heap.size,0,none⟩) 0 0) 0 [] rfl HO.o ad n c (bG L) rfl HL.o HN.o (Cde.qQ L) hn0 (by unfold maxLen;omega) (by omega) (by simp) _ rfl ?_;intro g cap w2 hown hgr hat hlt)
  rw[Nat.zero_add,List.nil_append] at hown
  have HO2:=aC hown
  have HB2:=aC (HBel.o.grown hgr HBel.o.size (fun k h=>by cases h;exact Nat.le_refl _))
  clear hown hgr hat hlt
  go_wp2_with fail
  go_ret
  exact⟨_,_,rfl,HO2.o,HB2.o⟩
theorem own_ne (h:W.ownsRow base e size v n xs)(hb:aI W b t cs)(ht:t≠e):v.ownBlock≠some b:=by
 intro hk
 obtain⟨-,cs',fr,h2⟩:=Cde.aQ h b hk
 rw[hb] at h2
 cases h2
 exact ht rfl
theorem aU (h:V.ownsRow base e size v n xs)(hg:V.grownBy w' v.ownBlock)(hb:aI V b t cs)(ht:t≠e):aI w' b t cs :=
 hb.kept hg fun he=>own_ne h hb ht he.symm
theorem eQ {base':Nat}{e':TypeId}{size' n':Nat}{v':Value}{xs':List Value}(h:V.ownsRow base e size v n xs)(h':V.ownsRow base' e' size' v' n' xs')(ht:e≠e')(hg:V.grownBy w' v.ownBlock):w'.ownsRow base' e' size' v' n' xs':=by
 refine h'.kept hg ?_
 cases hv:v'.ownBlock with
 | none=>exact .inl rfl
 | some q =>
  right
  intro hq
  obtain⟨-,cs,fr,h1⟩:=Cde.aQ h q hq.symm
  obtain⟨-,cs',fr',h2⟩:=Cde.aQ h' q hv
  rw[h1] at h2
  cases h2
  exact ht rfl
abbrev bM:Array Value:=#[.int .i64 0,.int .i64 0,.slice none 0 0,.int .i64 0]
structure Fb (W V:World)(cv:Array Value)(mv tv:Value)(M:List In)(T:List Int):Prop where
 c:aI V W.heap.size 26 cv
 o:aI V (W.heap.size+1) 26 bM
 m:V.ownsRow W.heap.size 57 6 mv M.length (bG M)
 t:V.ownsRow W.heap.size 3 1 tv T.length (bY T)
 lo:Below W.heap.size W V
theorem Fb.below {W V V':World}{cv:Array Value}{mv tv:Value}{M:List In}{T:List Int}(h:Fb W V cv mv tv M T)(hb:Below V.heap.size V V'):Fb W V' cv mv tv M T :=
 ⟨h.c.below hb,h.o.below hb,Cde.aS h.m hb,Cde.aS h.t hb,bel h.lo hb⟩
theorem Fb.growM {mv':Value}{M':List In}(h:Fb W V cv mv tv M T)(hg:V.grownBy w' mv.ownBlock)(hO:w'.ownsRow W.heap.size 57 6 mv' M'.length (bG M')):Fb W w' cv mv' tv M' T :=
 ⟨aU h.m hg h.c (by decide),aU h.m hg h.o (by decide),hO,eQ h.m h.t (by decide) hg,h.lo.grown hg h.lo.size fun k hk=>(Cde.aQ h.m k hk).1⟩
theorem Fb.growT {tv':Value}{T':List Int}(h:Fb W V cv mv tv M T)(hg:V.grownBy w' tv.ownBlock)(hO:w'.ownsRow W.heap.size 3 1 tv' T'.length (bY T')):Fb W w' cv mv tv' M T' :=
 ⟨aU h.t hg h.c (by decide),aU h.t hg h.o (by decide),eQ h.t h.m (by decide) hg,hO,h.lo.grown hg h.lo.size fun k hk=>(Cde.aQ h.t k hk).1⟩
abbrev s6 (w:World)(b:Nat)(n:In):World :=
 (((((w.setCell ⟨b,0,none⟩ (.int .i64 n.op)).setCell ⟨b,1,none⟩ (.int .i64 n.a)).setCell ⟨b,2,none⟩ (.int .i64 n.b)).setCell ⟨b,3,none⟩ (.int .i64 n.c)).setCell ⟨b,4,none⟩ (.int .i64 n.k)).setCell ⟨b,5,none⟩ (.int .i64 n.s)
theorem aDj {n m:In}(h:aI w b 57 (ia n)):aI (s6 w b m) b 57 (ia m):=(((((h.set 0 _).set 1 _).set 2 _).set 3 _).set 4 _).set 5 _
theorem vL {q:Nat}(h:aI w q t cs)(hq:q≠b)(m:In):aI (s6 w b m) q t cs :=
 (((((h.other (p:=⟨b,0,none⟩) hq _).other (p:=⟨b,1,none⟩) hq _).other (p:=⟨b,2,none⟩) hq _).other (p:=⟨b,3,none⟩) hq _).other (p:=⟨b,4,none⟩) hq _).other (p:=⟨b,5,none⟩) hq _
theorem uI (h:w.ownsRow base e size v n xs)(hq:v.ownBlock≠some b)(m:In):(s6 w b m).ownsRow base e size v n xs :=
 ownsRow_setCell_other (ownsRow_setCell_other (ownsRow_setCell_other (ownsRow_setCell_other (ownsRow_setCell_other (ownsRow_setCell_other h (a:=⟨b,0,none⟩) hq _) (a:=⟨b,1,none⟩) hq _) (a:=⟨b,2,none⟩) hq _) (a:=⟨b,3,none⟩) hq _) (a:=⟨b,4,none⟩) hq _) (a:=⟨b,5,none⟩) hq _
theorem aDb (h:Below w.heap.size w V)(hb:w.heap.size<=b)(m:In):Below w.heap.size w (s6 V b m) :=
 (((((h.setCell (p:=⟨b,0,none⟩) hb _).setCell (p:=⟨b,1,none⟩) hb _).setCell (p:=⟨b,2,none⟩) hb _).setCell (p:=⟨b,3,none⟩) hb _).setCell (p:=⟨b,4,none⟩) hb _).setCell (p:=⟨b,5,none⟩) hb _
structure Fc (W V:World)(cv:Array Value)(mv tv:Value)(M:List In)(T:List Int)(b:Nat)(n:In):Prop where
 f:Fb W V cv mv tv M T
 n:aI V b 57 (ia n)
 hb:W.heap.size+1 < b
 hm:mv.ownBlock≠some b
theorem Fc.below {W V V':World}{cv:Array Value}{mv tv:Value}{M:List In}{T:List Int}{b:Nat}{n:In}(h:Fc W V cv mv tv M T b n)(hb:Below V.heap.size V V'):Fc W V' cv mv tv M T b n:=⟨h.f.below hb,h.n.below hb,h.hb,h.hm⟩
theorem Fc.put {n:In}(h:Fc W V cv mv tv M T b n)(m:In):Fc W (s6 V b m) cv mv tv M T b m :=
 have hb:=h.hb
 ⟨⟨vL h.f.c (by omega) m,vL h.f.o (by omega) m,uI h.f.m h.hm m,uI h.f.t (own_ne h.f.t h.n (by decide)) m,aDb h.f.lo (by omega) m⟩,aDj h.n,hb,h.hm⟩
theorem Fb.with (h:Fb W V cv mv tv M T)(n:In):Fc W (V.alloc (.cells (ia n) 57)) cv mv tv M T V.heap.size n :=
 ⟨h.below (aH _ _),aI.new V 57 (ia n),h.o.lt,fun hk=>by
  obtain⟨-,cs,fr,h1⟩:=Cde.aQ h.m _ hk
  have:=(Array.getElem?_eq_some_iff.1 h1).1
  omega⟩
theorem Fb.ints {k:Nat}(h:Fb W V cv mv (.slice a k c) M T)(hk:T.length=k):Ints V a k c T:=by
 obtain⟨a',c',e,hi,-⟩:=Ints.of_owns h.t
 cases e
 rw[hk] at hi
 exact hi
theorem Fb.ins {k:Nat}(h:Fb W V cv (.slice a k c) tv M T)(hk:M.length=k):Ins V a k c M:=by
 obtain⟨a',c',e,hi,-⟩:=Ins.of_owns h.m
 cases e
 rw[hk] at hi
 exact hi
theorem mQ {n:In}(h:aI W b t (ia n)):W.frozen? ⟨b,0,none⟩=false/\W.frozen? ⟨b,1,none⟩=false/\W.frozen? ⟨b,2,none⟩=false/\W.frozen? ⟨b,3,none⟩=false/\W.frozen? ⟨b,4,none⟩=false/\W.frozen? ⟨b,5,none⟩=false :=
 ⟨h.frozen 0,h.frozen 1,h.frozen 2,h.frozen 3,h.frozen 4,h.frozen 5⟩
theorem yJ (n:Nat)(h:n<=1024):∃ cs:Array Value,cs.size=n*6/\∀ w:World,(Instr.makeSlice 24 (.int .i64 0) (.int .i64 n)).run Tryz.prog w=.ok (.slice (some ⟨w.heap.size,0,none⟩) 0 n) (w.alloc (.cells cs 57)):=by
 obtain⟨i0',hi,hz0,hz1,hz2⟩:=Spn.info_parts iK
 refine⟨madeCells (Value.agg (ia i0)).cells (n*6),size_madeCells _ _,fun w=>?_⟩
 have:=run_make w 24 57 i0' _ Tryz.underlying24 hi hz0 .i64 .i64 0 n (by omega) (by omega) (by rw[hz2];omega) (by omega)
 rw[hz1] at this
 simp only[Int.toNat_natCast] at this
 exact this
theorem yO (n:Nat)(h:n<=1024):∃ cs:Array Value,cs.size=n*1/\∀ w:World,(Instr.makeSlice 27 (.int .i64 0) (.int .i64 n)).run Tryz.prog w=.ok (.slice (some ⟨w.heap.size,0,none⟩) 0 n) (w.alloc (.cells cs 3)):=by
 obtain⟨i0',hi,hz0,hz1,hz2⟩:=info_parts info3
 refine⟨madeCells (Value.int .i64 0).cells (n*1),size_madeCells _ _,fun w=>?_⟩
 have:=run_make w 27 3 i0' _ Tryz.underlying27 hi hz0 .i64 .i64 0 n (by omega) (by omega) (by rw[hz2];omega) (by omega)
 rw[hz1] at this
 simp only[Int.toNat_natCast] at this
 exact this
theorem jA (h:aI V b e cs)(hs:cs.size=n*size)(hb:W.heap.size<=b)(hn:n<=1024):V.ownsRow W.heap.size e size (.slice (some ⟨b,0,none⟩) 0 n) 0 [] :=
 ⟨by simp,.inr ⟨b,n,cs,rfl,hb,h,Nat.zero_le _,by unfold maxLen;omega,hs,by simp⟩⟩
structure Fh (W V:World)(cv wv rv:Array Value):Prop where
 c:aI V W.heap.size 26 cv
 w:aI V (W.heap.size+1) 26 wv
 r:aI V (W.heap.size+1+1) 26 rv
 lo:Below W.heap.size W V
theorem Fh.below {W V V':World}{cv wv rv:Array Value}(h:Fh W V cv wv rv)(hb:Below V.heap.size V V'):Fh W V' cv wv rv:=⟨h.c.below hb,h.w.below hb,h.r.below hb,bel h.lo hb⟩
abbrev s4 (w:World)(b:Nat)(x y z u:Value):World:=(((w.setCell ⟨b,0,none⟩ x).setCell ⟨b,1,none⟩ y).setCell ⟨b,2,none⟩ z).setCell ⟨b,3,none⟩ u
theorem Fh.put {wv:Array Value}{p q r s:Value}(h:Fh W V cv wv #[p,q,r,s])(x y z u:Value):Fh W (s4 V (W.heap.size+1+1) x y z u) cv wv #[x,y,z,u]:=by
 refine⟨?_,?_,(((h.r.set 0 x).set 1 y).set 2 z).set 3 u,?_⟩
 ·exact(((h.c.other (p:=⟨W.heap.size+1+1,0,none⟩) (by simp;omega) _).other (p:=⟨W.heap.size+1+1,1,none⟩) (by simp;omega) _).other (p:=⟨W.heap.size+1+1,2,none⟩) (by simp;omega) _).other (p:=⟨W.heap.size+1+1,3,none⟩) (by simp;omega) _
 ·exact(((h.w.other (p:=⟨W.heap.size+1+1,0,none⟩) (by simp) _).other (p:=⟨W.heap.size+1+1,1,none⟩) (by simp) _).other (p:=⟨W.heap.size+1+1,2,none⟩) (by simp) _).other (p:=⟨W.heap.size+1+1,3,none⟩) (by simp) _
 ·exact(((h.lo.setCell (p:=⟨W.heap.size+1+1,0,none⟩) (by simp;omega) _).setCell (p:=⟨W.heap.size+1+1,1,none⟩) (by simp;omega) _).setCell (p:=⟨W.heap.size+1+1,2,none⟩) (by simp;omega) _).setCell (p:=⟨W.heap.size+1+1,3,none⟩) (by simp;omega) _
theorem bC (h:aI W b t cs):W.frozen? ⟨b,0,none⟩=false/\W.frozen? ⟨b,1,none⟩=false/\W.frozen? ⟨b,2,none⟩=false/\W.frozen? ⟨b,3,none⟩=false:=⟨h.frozen 0,h.frozen 1,h.frozen 2,h.frozen 3⟩
theorem dB (h:w.ownsRow base e size v n xs)(hq:v.ownBlock≠some b)(x y z u:Value):(s4 w b x y z u).ownsRow base e size v n xs :=
 ownsRow_setCell_other (ownsRow_setCell_other (ownsRow_setCell_other (ownsRow_setCell_other h (a:=⟨b,0,none⟩) hq _) (a:=⟨b,1,none⟩) hq _) (a:=⟨b,2,none⟩) hq _) (a:=⟨b,3,none⟩) hq _
theorem aG5 (f d o1 o2:Int){a1 a2:Option Addr}{n1 n2 c1 c2:Nat}(hM:Ins W a1 n1 c1 M)(hL:Ins W a2 n2 c2 L)(hn0:0 < n2)(hn:n2<=1000) :
  Calls Tryz.prog 106 #[.agg (cd f d a1 n1 c1 o1),.agg (cd f d a2 n2 c2 o2)] W fun e W' =>
   (bL f d M o1=0/\e=.returned (.agg (cd f d a1 n1 c1 o1))/\Below W.heap.size W W') \/
   (bL f d M o1≠0/\∃ a' c',e=.returned (.agg (cd f d a' n2 c' o2))/\W'.ownsRow W.heap.size 57 6 (.slice a' n2 c') n2 (bG L)/\Below W.heap.size W W'):=by
 have b1:=aH W (.cells (cd f d a1 n1 c1 o1) 26)
 have b2:=bel b1 (aH _ (.cells (cd f d a2 n2 c2 o2) 26))
 have b3:=bel b2 (aH _ (.cells bM 26))
 have h3:=aI.new ((W.alloc (.cells (cd f d a1 n1 c1 o1) 26)).alloc (.cells (cd f d a2 n2 c2 o2) 26)) 26 bM
 rw[World.size_alloc,World.size_alloc] at h3
 have HF0:Hid (Fh W (((W.alloc (.cells (cd f d a1 n1 c1 o1) 26)).alloc (.cells (cd f d a2 n2 c2 o2) 26)).alloc (.cells bM 26)) (cd f d a1 n1 c1 o1) (cd f d a2 n2 c2 o2) bM) :=
  aC ⟨((aI.new W 26 (cd f d a1 n1 c1 o1)).alloc (.cells (cd f d a2 n2 c2 o2) 26)).alloc (.cells bM 26),(aL W (.cells (cd f d a1 n1 c1 o1) 26) 26 (cd f d a2 n2 c2 o2)).alloc (.cells bM 26),h3,b3⟩
 have HV:=aC (Vfy.fC f d o1 (hM.later b3))
 have HLI:=aC hL
 clear b1 b2 b3 h3 hM hL
 go_enter Tryz.func106,Tryz.ntmps106
 go_wp2_with fail
 refine HV.o.mono ?_
 rintro e V1 ⟨ga,gc,rfl,hS,hb,-,-⟩
 obtain⟨m,hm⟩:∃ m,kN f d M o1=m:=⟨_,rfl⟩
 obtain⟨co,hco⟩:∃ co,kK f d M o1=co:=⟨_,rfl⟩
 obtain⟨er,her⟩:∃ er,bL f d M o1=er:=⟨_,rfl⟩
 rw[hm,hco,her]
 have HEr:=aC her
 have hb2:=aH V1 (.cells #[.slice ga m gc,.int .i64 co,.int .i64 0] 47)
 have HF1:=aC ((HF0.o.below hb).below hb2)
 obtain⟨x0,x1,x2,x3⟩:=aG (HF0.o.below hb).c
 obtain⟨w0,w1,w2,w3⟩:=aG (HF0.o.below hb).w
 obtain⟨p0,p1,p2,p3⟩:=aG (HF0.o.below hb).r
 have z0:=(HF0.o.below hb).c.lt
 have z1:=(HF0.o.below hb).w.lt
 have z2:=(HF0.o.below hb).r.lt
 clear hm hco her hb hb2 hS HV HF0
 by_cases h0:er=0
 ·have hr:(er==0)=true:=by simpa using h0
  go_upto_region 3 with fail
  obtain⟨V2,hV2⟩:∃ V2,V1.alloc (.cells #[.slice ga m gc,.int .i64 co,.int .i64 0] 47)=V2:=⟨_,rfl⟩
  rw[hV2] at HF1 ⊢
  clear x0 x1 x2 x3 w0 w1 w2 w3 p0 p1 p2 p3 z0 z1 z2 hV2
  obtain⟨x0,x1,x2,x3⟩:=aG HF1.o.c
  obtain⟨p0,p1,p2,p3⟩:=aG HF1.o.r
  obtain⟨r0,r1,r2,r3⟩:=bC HF1.o.r
  obtain⟨V3,hV3⟩:∃ V3,(((V2.setCell ⟨W.heap.size+1+1,0,none⟩ (.int .i64 f)).setCell ⟨W.heap.size+1+1,1,none⟩ (.int .i64 d)).setCell ⟨W.heap.size+1+1,2,none⟩ (.slice a1 n1 c1)).setCell ⟨W.heap.size+1+1,3,none⟩ (.int .i64 o1)=V3:=⟨_,rfl⟩
  have HF2:Hid (Fh W V3 (cd f d a1 n1 c1 o1) (cd f d a2 n2 c2 o2) (cd f d a1 n1 c1 o1)):=aC (by rw[<-hV3];exact HF1.o.put (.int .i64 f) (.int .i64 d) (.slice a1 n1 c1) (.int .i64 o1))
  go_wp2_with fail
  obtain⟨q0,q1,q2,q3⟩:=aG HF2.o.r
  exact bodyPost_ret (v:=.agg (cd f d a1 n1 c1 o1)) (by simp[results,Tryz.results106,go_sem,q0,q1,q2,q3]) rfl (.inl ⟨HEr.o.trans h0,rfl,HF2.o.lo⟩)
 ·have hr:(er==0)=false:=by simpa using h0
  go_upto_region 4 with fail
  obtain⟨V2,hV2⟩:∃ V2,V1.alloc (.cells #[.slice ga m gc,.int .i64 co,.int .i64 0] 47)=V2:=⟨_,rfl⟩
  rw[hV2] at HF1 ⊢
  clear x0 x1 x2 x3 w0 w1 w2 w3 p0 p1 p2 p3 z0 z1 z2 hV2
  obtain⟨x0,x1,x2,x3⟩:=aG HF1.o.w
  have HCl:=aC (iX ((HLI.o.later HF1.o.lo).later (aD V2)) (by omega) hn0)
  have HS:=aC fun V3 (hb:Below V2.drew.heap.size V2.drew V3)=>(HF1.o.below (bel (aD V2) hb))
  go_region_held3 (fun w'=>w'.cell? ⟨W.heap.size+1,0,none⟩=some (.int .i64 f)/\w'.cell? ⟨W.heap.size+1,1,none⟩=some (.int .i64 d)/\w'.cell? ⟨W.heap.size+1,2,none⟩=some (.slice a2 n2 c2)/\w'.cell? ⟨W.heap.size+1,3,none⟩=some (.int .i64 o2))
   (first|exact⟨x0,x1,x2,x3⟩|exact⟨k0,k1,k2,k3⟩|go_keep)
   ((first
    | (go_at_call 24;refine HCl.o.mono ?_;rintro e V3 ⟨a',c',rfl,hO,hb⟩;have HF3:=aC (HS.o V3 hb);obtain⟨k0,k1,k2,k3⟩:=aG HF3.o.w;obtain⟨p0,p1,p2,p3⟩:=aG HF3.o.r;obtain⟨r0,r1,r2,r3⟩:=bC HF3.o.r)))
  all_goals
   have HO3:=aC (Cde.aW hO (show W.heap.size<=V2.drew.heap.size from HF1.o.lo.size))
   clear k0 k1 k2 k3 p0 p1 p2 p3 r0 r1 r2 r3 hO hb HCl HS x0 x1 x2 x3
   have hq:=own_ne HO3.o HF3.o.r (by decide)
   have HO4:=aC (dB HO3.o hq (.int .i64 f) (.int .i64 d) (.slice a' n2 c') (.int .i64 o2))
   have HF4:=aC (HF3.o.put (.int .i64 f) (.int .i64 d) (.slice a' n2 c') (.int .i64 o2))
   obtain⟨V4,hV4⟩:∃ V4,(((V3.setCell ⟨W.heap.size+1+1,0,none⟩ (.int .i64 f)).setCell ⟨W.heap.size+1+1,1,none⟩ (.int .i64 d)).setCell ⟨W.heap.size+1+1,2,none⟩ (.slice a' n2 c')).setCell ⟨W.heap.size+1+1,3,none⟩ (.int .i64 o2)=V4:=⟨_,rfl⟩
   unfold s4 at HO4 HF4
   rw[hV4] at HO4 HF4 ⊢
   clear hV4 hq HF3 HO3
   go_wp2_with fail
   obtain⟨q0,q1,q2,q3⟩:=aG HF4.o.r
   exact bodyPost_ret (v:=.agg (cd f d a' n2 c' o2)) (by simp[results,Tryz.results106,go_sem,q0,q1,q2,q3]) rfl (.inr ⟨by rw[HEr.o];exact h0,_,_,rfl,HO4.o,HF4.o.lo⟩)
end Go.Proofs.Shr
