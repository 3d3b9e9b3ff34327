import Derived.Maps.OwnIn
import Derived.DeepKeys4
import Derived.Test.YticnbcfmbhjbgaaGreatDoorX23
set_option maxRecDepth 100000
set_option maxHeartbeats 32000000
set_option linter.unusedVariables false
namespace Go.Proofs.Shr
section
open Go.RowKit Go.IntWalk Knd
open YticnbcfmbhjbgaaGreatDoor (Wd dQ Fits inpV)
open Cde (In i0 eF dC bE eH kM eU jK cZ tK nA fZ gW nE tJ tH agA ctR usU)
open Vfy (pI aW aI w32 eZ)
open Fld (ar vl dH dP Rv St gv eD uV xP jI oV bO aGb aQ7 nI kT bR kH)
variable {L:List In} {k:Nat} {d f op out:Int}
def ewB (op:Int):Bool:=op==8 || op==10 || op==15 || op==16 || op==17 || op==22 || op==23 || op==24 || op==25
def swI (n:In):In:=⟨n.op,n.b,n.a,n.c,n.k,n.s⟩
def orI (n:In):In:=if ewB n.op=true/\n.b < n.a then swI n else n
def shM (n:In)(T:List Int):In:=orI (dH n T)
def shS (s:List In × List Int)(n:In):List In × List Int:=(s.1++[shM n s.2],s.2++[((s.1.idxOf (shM n s.2):Nat):Int)])
def nV (L:List In):List In × List Int:=L.foldl shS ([],[])
theorem aF5 (L:List In)(n:In):nV (L++[n])=shS (nV L) n:=by simp[nV]
theorem aDu (L:List In):∀ k,k<=L.length->(nV (L.take k)).1.length=k/\(nV (L.take k)).2.length=k
 | 0,_=>by simp[nV]
 | k+1,h=>by
  have ih:=aDu L k (by omega)
  rw[Cde.aG i0 (by omega),aF5,shS]
  simp[ih.1,ih.2]
theorem aAb (hk:k < L.length):nV (L.take (k+1))=shS (nV (L.take k)) (L.getD k i0):=by rw[Cde.aG i0 hk,aF5]
theorem aJy (L:List In):(nV L).1.length=L.length/\(nV L).2.length=L.length:=by
 have:=aDu L L.length (nLr _)
 rwa[lTg] at this
def shO (L:List In)(out:Int):Int:=(nV L).2.getD out.toNat 0
def sdL (f d:Int)(L:List In)(out:Int):List In:=if aW f d (nV L).1 (shO L out)=0 then(nV L).1 else L
def sdO (f d:Int)(L:List In)(out:Int):Int:=if aW f d (nV L).1 (shO L out)=0 then shO L out else out
theorem bBj (n:In):(orI n).op=n.op:=by unfold orI;split <;> rfl
theorem aWb (h:ewB op=true):ar op=2:=by
 simp only[ewB,Bool.or_eq_true,beq_iff_eq] at h
 rcases h with(((((((h|h)|h)|h)|h)|h)|h)|h)|h <;> subst h <;> decide
theorem aWh {n:In}{i:Nat}(h:bE n i=true):bE (orI n) i=true:=by
 unfold orI
 split
 ·rename_i he
  have h2:=aWb he.1
  have e1:(0:Int) < Spn.ar n.op:=by rw[show Spn.ar n.op=2 from h2];decide
  have e2:(1:Int) < Spn.ar n.op:=by rw[show Spn.ar n.op=2 from h2];decide
  simp only[bE,tJ,bAt,swI,e1,e2,decide_true] at h ⊢
  obtain⟨⟨h1,⟨h3,h4⟩,h5⟩,h6⟩:=h
  exact⟨⟨h1,⟨h4,h3⟩,h5⟩,h6⟩
 ·exact h
theorem aM1 (a b:Int):bits .and .i64 a b=bits .and .i64 b a/\bits .or .i64 a b=bits .or .i64 b a/\bits .xor .i64 a b=bits .xor .i64 b a:=by
 have h1:=Spn.gV .and a b
 have h2:=Spn.gV .and b a
 have h3:=Spn.gV .or a b
 have h4:=Spn.gV .or b a
 have h5:=Spn.gV .xor a b
 have h6:=Spn.gV .xor b a
 simp only[Spn.nW.bv] at h1 h2 h3 h4 h5 h6
 refine⟨h1.trans (Eq.trans ?_ h2.symm),h3.trans (Eq.trans ?_ h4.symm),h5.trans (Eq.trans ?_ h6.symm)⟩
 ·rw[BitVec.and_comm]
 ·rw[BitVec.or_comm]
 ·rw[BitVec.xor_comm]
theorem aSs (h:ewB op=true)(k s a b c:Int):Spn.ex op k s a b c=Spn.ex op k s b a c:=by
 simp only[ewB,Bool.or_eq_true,beq_iff_eq] at h
 obtain⟨b1,b2,b3⟩:=aM1 a b
 rcases h with(((((((h|h)|h)|h)|h)|h)|h)|h)|h <;> subst h
 ·show (a+b,(0:Int))=(b+a,0)
  rw[Int.add_comm]
 ·show (a*b,(0:Int))=(b*a,0)
  rw[Int.mul_comm]
 ·show (bits .and .i64 a b,(0:Int))=(bits .and .i64 b a,0)
  rw[b1]
 ·show (bits .or .i64 a b,(0:Int))=(bits .or .i64 b a,0)
  rw[b2]
 ·show (bits .xor .i64 a b,(0:Int))=(bits .xor .i64 b a,0)
  rw[b3]
 ·have e:(a=b)=(b=a):=propext eq_comm
  simp[Spn.ex,Spn.tr,e]
 ·have e:(a=b)=(b=a):=propext eq_comm
  simp[Spn.ex,Spn.tr,e]
 ·show (min a b,(0:Int))=(min b a,0)
  rw[Int.min_comm]
 ·show (max a b,(0:Int))=(max b a,0)
  rw[Int.max_comm]
theorem aVn (h:ewB op=true)(k s x y:Int):vl op k s [x,y]=vl op k s [y,x]:=by
 have hm:Spn.fT op k s [x,y]=Spn.fT op k s [y,x]:=by
  simp only[Spn.fT,lLc,lLn,lAc,List.all_nil,Bool.and_true]
  cases Spn.wd x <;> cases Spn.wd y <;> rfl
 have he:=aSs h k s x y 0
 unfold vl Spn.bK
 rw[hm]
 simp only[List.getD_cons_zero,List.getD_cons_succ,List.getD_nil,he]
theorem bBl (f d:Int)(v:Wd)(V:List Int)(n:In):cZ f d v V (orI n)=cZ f d v V n:=by
 unfold orI
 split
 ·rename_i he
  have h2:=aWb he.1
  have h2':ar (swI n).op=2:=h2
  rw[bO (n:=n) (by omega),bO (n:=swI n) (by omega),uV h2,uV h2']
  exact aVn he.1 _ _ _ _
 ·rfl
theorem aHf {M:List In}{m:In}(h:M.idxOf m < M.length):M.getD (M.idxOf m) i0=m:=by
 rw[gdE,gEg h]
 simp
structure Si (f d:Int)(v:Wd)(L:List In)(k:Nat)(V:List Int):Prop where
 val:nA f d v (L.take k)=(0,V)
 rv:Rv f d v (nV (L.take k)).1 V
 st:St V (nV (L.take k)).2 k
 new:nA f d v (nV (L.take k)).1=(0,V)
theorem aU1 {v:Wd}{V:List Int}(h:Si f d v L k V)(hk:k < L.length)(ho:bE (L.getD k i0) k=true){x:Int}(hx:cZ f d v V (L.getD k i0)=(x,0)):Si f d v L (k+1) (V++[x]):=by
 have hl:=(aDu L k (by omega)).1
 have ho':bE (shM (L.getD k i0) (nV (L.take k)).2) k=true:=aWh (aGb h.st ho)
 have hx':cZ f d v V (shM (L.getD k i0) (nV (L.take k)).2)=(x,0):=by rw[shM,bBl,aQ7 h.st ho];exact hx
 have e:nV (L.take (k+1))=shS (nV (L.take k)) (L.getD k i0):=aAb hk
 refine⟨?_,?_,?_,?_⟩
 ·rw[Cde.aG i0 hk,Cde.dZ,h.val,tK,if_pos rfl,hx,if_pos rfl]
 ·rw[e];exact h.rv.snoc (by rw[hl];exact ho') hx'
 ·rw[e]
  refine h.st.snoc ?_
  by_cases hi:(nV (L.take k)).1.idxOf (shM (L.getD k i0) (nV (L.take k)).2) < k
  ·right
   refine⟨⟨by omega,by omega⟩,?_⟩
   have hr:=h.rv.val ((nV (L.take k)).1.idxOf (shM (L.getD k i0) (nV (L.take k)).2)) (by rw[hl];exact hi)
   rw[aHf (by rw[hl];exact hi),hx'] at hr
   rw[gv,iTn]
   exact(congrArg Prod.fst hr).symm
  ·left
   have:=List.idxOf_le_length (l:=(nV (L.take k)).1) (a:=shM (L.getD k i0) (nV (L.take k)).2)
   omega
 ·rw[e]
  show nA f d v ((nV (L.take k)).1++[_])=_
  rw[Cde.dZ,h.new,tK,if_pos rfl,hx',if_pos rfl]
theorem xL {f d:Int}{v:Wd}{L:List In}{out:Int}(h:aW f d L out=0)(hF:Fits f d v):∀ k,k<=L.length->∃ V,Si f d v L k V
 | 0,_=>⟨[],rfl,Rv.nil f d v,⟨rfl,rfl,fun i hi=>absurd hi (Nat.not_lt_zero _)⟩,rfl⟩
 | k+1,hk=>by
  obtain⟨V,hV⟩:=xL h hF k (by omega)
  obtain⟨m,ha,⟨S,hS,-,-⟩,-,-,-⟩:=aI h
  obtain⟨hm,-,-,-,-,hok⟩:=Cde.aQ m
  obtain⟨V2,S2,g1,g2,g3⟩:=Vfy.qO hm hF hok ha (by rw[hS]) (k+1) hk
  have ho:=Cde.dE hok (show k < L.length by omega)
  rw[Cde.aG i0 (by omega),Cde.dZ,hV.val,tK,if_pos rfl] at g1
  by_cases hz:(cZ f d v V (L.getD k i0)).2=0
  ·exact⟨_,aU1 hV (by omega) ho (Prod.ext rfl hz)⟩
  ·rw[if_neg hz] at g1
   exact absurd (congrArg Prod.fst g1) hz
theorem bBx (h:aW f d L out=0)(hk:k < L.length):bE (shM (L.getD k i0) (nV (L.take k)).2) k=true:=by
 obtain⟨m,-⟩:=aI h
 obtain⟨hm,-,-,-,-,hok⟩:=Cde.aQ m
 obtain⟨V,hV⟩:=xL h (Fld.aAl hm) k (by omega)
 exact aWh (aGb hV.st (Cde.dE hok hk))
theorem aJz (L:List In):∀ k,k<=L.length->eU (nV (L.take k)).1=eU (L.take k)
 | 0,_=>by simp[nV,eU]
 | k+1,hk=>by
  rw[aAb (by omega),Cde.aG i0 (by omega),Cde.gG,shS,Cde.gG,aJz L k (by omega),shM,bBj]
  rfl
theorem aQj (h:aW f d L out=0):aW f d (sdL f d L out) (sdO f d L out)=0/\(sdL f d L out).length=L.length/\eU (sdL f d L out)=eU L /\
  ∀ v,Fits f d v->∃ V,fZ f d v L out=(0,V)/\fZ f d v (sdL f d L out) (sdO f d L out)=(0,V)/\V.length=L.length/\0<=sdO f d L out/\(sdO f d L out).toNat < L.length/\V.getD (sdO f d L out).toNat 0=V.getD out.toNat 0:=by
 obtain⟨m,ha,⟨S,hS,-,-⟩,-,-,-⟩:=aI h
 obtain⟨hm,-,-,ho0,ho1,hok⟩:=Cde.aQ m
 obtain⟨-,-,hH⟩:=Vfy.qN h
 have hlen:=(aJy L).1
 unfold sdL sdO
 by_cases hn:aW f d (nV L).1 (shO L out)=0
 ·rw[if_pos hn,if_pos hn]
  have hc:=aJz L L.length (nLr _)
  rw[lTg] at hc
  refine⟨hn,hlen,hc,fun v hF=>?_⟩
  obtain⟨V,hV⟩:=xL h hF L.length (nLr _)
  have h1:=hV.val
  have h2:=hV.new
  have h3:=hV.st
  rw[lTg] at h1 h2 h3
  obtain⟨m2,-⟩:=aI hn
  obtain⟨a1,a2,a3⟩:=h3.at' out.toNat (by omega)
  refine⟨V,by rw[fZ,if_pos m,if_pos hF];exact h1,by rw[fZ,if_pos m2,if_pos hF];exact h2,h3.vl,a1,by show ((nV L).2.getD out.toNat 0).toNat < _;omega,a3⟩
 ·rw[if_neg hn,if_neg hn]
  refine⟨h,rfl,rfl,fun v hF=>?_⟩
  obtain⟨V,hV,hI⟩:=hH v hF
  obtain⟨V',hV'⟩:=xL h hF L.length (nLr _)
  have h1:=hV'.val
  have h3:=hV'.st.vl
  rw[lTg] at h1
  have hV2:=hV
  rw[fZ,if_pos m,if_pos hF,h1] at hV
  cases hV
  exact⟨_,hV2,hV2,h3,ho0,by omega,rfl⟩
def gY (n:Int):Prop:=-9223372036854775808<=n/\n<=9223372036854775807
def zD (n:In):Prop:=gY n.op/\gY n.a/\gY n.b/\gY n.c/\gY n.k/\gY n.s
theorem bBh {n:In}{i:Nat}(h:bE n i=true)(hi:i<=1000):zD n:=by
 have hc:=Cde.qE h
 have ha:=Cde.aBn h
 have hop:1<=n.op/\n.op<=33:=by
  rcases(show (n.op < 1\/n.op=4\/33 < n.op)\/(1<=n.op/\n.op<=33) by omega) with h1|h1
  ·rw[Spn.aWs h1] at ha
   omega
  ·exact h1
 simp only[bE,tJ,bAt,kH,dEt,decide_eq_false_iff_not] at h
 obtain⟨⟨-,⟨⟨a1,a2⟩,b1,b2⟩,c1,c2⟩,-⟩:=h
 have hr:∀ r:Int,(∀ p:Prop,(p->eD r i)->(¬p->r=0)->gY r):=by
  intro r p h1 h2
  by_cases hp:p
  ·have:=h1 hp
   unfold eD at this
   unfold gY
   omega
  ·have:=h2 hp
   unfold gY
   omega
 have hk:gY n.k/\gY n.s:=by
  unfold nE Spn.cons at hc
  unfold gY
  repeat' split at hc
  all_goals (try simp only[bAt,Spn.aK,beq_iff_eq] at hc)
  all_goals first|omega|skip
  all_goals
   obtain⟨h1,h2⟩:=hc
   first
    | (have h3:=Spn.bY.1 h1;unfold w32 at h3;omega)
    | (have h3:=Spn.bY.1 h1;obtain⟨h4,h5⟩:=h3;omega)
    | omega
 exact⟨by unfold gY;omega,hr n.a _ a1 a2,hr n.b _ b1 b2,hr n.c _ c1 c2,hk.1,hk.2⟩
end
section
open Go.RowKit Go.Maps Knd
open Cde (In i0 ia)
open YticnbcfmbhjbgaaGreatDoor (aB)
variable {n:In} {M:List In} {V W:World} {b m:Nat}
theorem laidOut:laidOutB Tryz.prog=true:=by kernel_rfl
theorem bBu:(132:TypeId) < Tryz.prog.types.size:=of_decide_eq_true (by kernel_rfl)
theorem bB8:(match Tryz.prog.underlying 132 with|some (.array _ _)|some (.struct _)=>true|_=>false)=true:=by rw[Tryz.underlying132]
theorem aTk:Keyed Tryz.prog 132:=Keyed.of_law (deep_law_laid laidOut (m:=2) (by omega) bBu (by kernel_rfl) bB8)
theorem aOj:Tryz.prog.keyType 132=true:=by kernel_rfl
theorem aM9:Tryz.prog.cellsOf 132=6:=by kernel_rfl
theorem cells3:Tryz.prog.cellsOf 3=1:=by kernel_rfl
theorem lV {n:Int}(h:gY n):(Lit.int .i64 n).wf=true:=by
 unfold gY at h;simp[Lit.wf,IntKind.min,IntKind.max,IntKind.bits,IntKind.signed];omega
theorem qA (d:Nat){n:Int}(h:gY n):Tryz.prog.keyLits (d+1) 3 [.i n]=some [.i n]:=by
 unfold Program.keyLits
 rw[Tryz.underlying3]
 simp[lV h]
theorem bAy (d:Nat)(h:zD n):Tryz.prog.keyLits (d+1+1) 132 (ia n).toList=some [.i n.op,.i n.a,.i n.b,.i n.c,.i n.k,.i n.s]:=by
 obtain⟨h0,h1,h2,h3,h4,h5⟩:=h
 unfold Program.keyLits
 simp only[Tryz.underlying132]
 simp[aM9,cells3,qA d h0,qA d h1,qA d h2,qA d h3,qA d h4,qA d h5]
noncomputable def kl (n:In):Lit:=(keyOf Tryz.prog 132 (.agg (ia n))).getD (.bool false)
theorem gH (h:zD n):keyOf Tryz.prog 132 (.agg (ia n))=some (kl n):=by
 have:∃ l,keyOf Tryz.prog 132 (.agg (ia n))=some l:=by
  have hf:(Value.agg (ia n)).formed Tryz.prog 132=true:=by
   simp only[Value.formed,Tryz.underlying132,aM9]
   rfl
  obtain⟨k,hk⟩:∃ k,Tryz.prog.types.size+1=k+1+1:=⟨Tryz.prog.types.size-1,by have h:(132:Nat) < Tryz.prog.types.size:=bBu;omega⟩
  have hl:=bAy k h
  rw[<-hk] at hl
  refine⟨.string (keyBytes [.i n.op,.i n.a,.i n.b,.i n.c,.i n.k,.i n.s]),?_⟩
  unfold keyOf
  rw[Tryz.underlying132]
  simp only[aOj,hf,Bool.and_self,if_true,Value.cells,hl,Option.map_some]
 obtain⟨l,hl⟩:=this
 unfold kl
 rw[hl];rfl
theorem aHi {p q:In}(hp:zD p)(hq:zD q)(h:kl p=kl q):p=q:=by
 have h1:=gH hp
 have h2:=gH hq
 rw[<-h] at h2
 have:=aTk.inj h1 h2
 simp at this
 cases p;cases q
 simp_all
theorem zG {p:In}(hp:zD p):WideAt.IsKeyLit (kl p):=aTk.key (gH hp)
def Tab (M:List In)(D:DataW Unit):Prop :=
 IsMap D/\∀ p:In,zD p->has D (kl p)=decide (p ∈ M)/\D.atKey (kl p) (.lit (.i 0))=.lit (.i (if p ∈ M then((M.idxOf p:Nat):Int) else 0))
theorem Tab.nil:Tab [] (.map []):=⟨⟨_,rfl⟩,fun p _=>⟨rfl,rfl⟩⟩
theorem Tab.old {D:DataW Unit}(h:Tab M D)(hn:n ∈ M):Tab (M++[n]) D:=by
 refine⟨h.1,fun p hp=>?_⟩
 obtain⟨h1,h2⟩:=h.2 p hp
 rw[h1,h2]
 by_cases e:p ∈ M
 ·have e2:p ∈ M++[n]:=by simp[e]
  rw[if_pos e,if_pos e2,List.idxOf_append,if_pos e]
  simp[e]
 ·have e2:p ∉ M++[n]:=by
   simp only[List.mem_append,lMm,lNm,or_false,not_or]
   exact⟨e,fun he=>e (by rw[he];exact hn)⟩
  rw[if_neg e,if_neg e2]
  simp[e,e2]
theorem Tab.new {D:DataW Unit}(h:Tab M D)(hw:zD n)(hn:n ∉ M):Tab (M++[n]) (D.put (kl n) (.lit (.i ((M.length:Nat):Int)))):=by
 refine⟨h.1.put _ _,fun p hp=>?_⟩
 by_cases e:p=n
 ·subst e
  rw[has_put_same h.1 (zG hp),atKey_put_same h.1 (zG hp),if_pos (by simp),List.idxOf_append,if_neg hn]
  simp
 ·have hne:kl p≠kl n:=fun h'=>e (aHi hp hw h')
  rw[has_put_other hne,atKey_put_other hne]
  obtain⟨h1,h2⟩:=h.2 p hp
  rw[h1,h2]
  by_cases e2:p ∈ M
  ·rw[if_pos e2,if_pos (by simp[e2]),List.idxOf_append,if_pos e2]
   simp[e2]
  ·have e3:p ∉ M++[n]:=by simp[e2,e]
   rw[if_neg e2,if_neg e3]
   simp[e2,e]
def Own (W:World)(b m:Nat)(M:List In):Prop:=∃ D,W.ownsMap Tryz.prog 132 (plainElem (H:=Unit) Tryz.prog 3) b m D/\Tab M D
theorem aX6 (c:Int)(w:World):(Instr.makeMap 375 (some (.i c))).run Tryz.prog w=.ok (.map (some w.heap.size)) (w.alloc (.map #[] 0)):=by
 simp[Instr.makeMap,run_underlying Tryz.underlying375,go_sem]
theorem aTp (hn:zD n)(h:Own W b m M) :
  (Instr.lookup 375 (.map (some b)) (.agg (ia n)) true).run Tryz.prog W=.ok (.tuple #[.i (if n ∈ M then((M.idxOf n:Nat):Int) else 0),.bool (decide (n ∈ M))]) W:=by
 obtain⟨D,hM,hT⟩:=h
 obtain⟨v,ps,hrun,hv⟩:=hM.look_ok aTk Tryz.underlying375 (Tryz.zeroValue3 W) (plainElem_int Tryz.underlying3 (lV (n:=0) (by unfold gY;omega))) (gH hn)
 obtain⟨c,rfl,hc,hwc⟩:=plainElem_int_inv Tryz.underlying3 hv
 obtain⟨t1,t2⟩:=hT.2 n hn
 have hc1:D.atKey (kl n) (.lit (.i 0))=.lit (.i c):=congrArg Prod.fst hc
 rw[t2] at hc1
 simp only[DataW.lit.injEq,Lit.int.injEq,true_and] at hc1
 rw[hrun,t1,<-hc1]
theorem aJ7 {ops:Array Oper}{rest:List Oper}{o:Oper}{a:Act}{Q:Exit->Act->World->Prop}
  (hgd:o.guard=none) (x y:Operand) (ho:o.op=.lookup 375 x y true) (hx:a.eval x=.map (some b)) (hy:a.eval y=.agg (ia n)) (h:Own V b m M) (hw:zD n)
  (hk:wpList Tryz.prog ops Q rest (a.put o.dst (.tuple #[.i (if n ∈ M then((M.idxOf n:Nat):Int) else 0),.bool (decide (n ∈ M))])) V) :
  wpList Tryz.prog ops Q (o::rest) a V:=by
 have hrun:=aTp hw h
 refine wpList_plain hgd fun K' hK'=>?_
 unfold Oper.wp
 simp[execOp,ho,hx,hy,hrun,Result.andThen]
 exact hK' _ _ (by simpa using hk)
theorem aZ0 {ops:Array Oper}{rest:List Oper}{o:Oper}{a:Act}{Q:Exit->Act->World->Prop}
  (hgd:o.guard=none) (x y z:Operand) (ho:o.op=.mapUpdate 375 x y z) (hx:a.eval x=.map (some b)) (hy:a.eval y=.agg (ia n)) (k:Nat) (hz:a.eval z=.i (k:Int)) (hkM:M.length=k)
  (h:Own V b m M) (hw:zD n) (hn:n ∉ M) (hm:m<=1000) (hl:k<=1000)
  (hk:∀ w',Own w' b (m+1) (M++[n])->V.grownBy w' (some b)->wpList Tryz.prog ops Q rest (a.put o.dst undef) w') :
  wpList Tryz.prog ops Q (o::rest) a V:=by
 obtain⟨D,hM,hT⟩:=h
 refine wpList_mapUpdate_own _ hgd _ _ _ 375 ho 132 3 aTk Tryz.underlying375 (plainElem (H:=Unit) Tryz.prog 3) b m D hx hM (by unfold maxLen;omega) _ _ (kl n) hy hz (gH hw) _ [] (plainElem_int Tryz.underlying3 (lV (n:=(k:Int)) (by unfold gY;omega))) ?_
 intro w' h1 h2
 exact hk w' ⟨_,h1,by rw[<-hkM];exact hT.new hw hn⟩ h2
theorem Own.made (W:World):Own (W.alloc (.map #[] 0)) W.heap.size 0 []:=⟨_,World.ownsMap_made W _ _ _,Tab.nil⟩
theorem Own.mono {W:World}{b m m':Nat}{M:List In}(h:Own W b m M)(hm:m<=m'):Own W b m' M:=by
 obtain⟨D,h1,h2⟩:=h
 exact⟨D,h1.mono hm,h2⟩
theorem Own.old {W:World}{b m:Nat}{M:List In}{n:In}(h:Own W b m M)(hn:n ∈ M):Own W b m (M++[n]):=by
 obtain⟨D,h1,h2⟩:=h
 exact⟨D,h1,h2.old hn⟩
theorem Own.below (h:Own W b m M)(hb:Below W.heap.size W V):Own V b m M:=by
 obtain⟨D,h1,h2⟩:=h
 have hlt:=h1.lt
 obtain⟨es,c,h3,h4⟩:=h1
 exact⟨D,⟨es,c,(hb.block b hlt).trans h3,h4⟩,h2⟩
theorem Own.kept {W V:World}{b m:Nat}{M:List In}{row:Option Nat}(h:Own W b m M)(hg:W.grownBy V row)(hne:row≠some b):Own V b m M:=by
 obtain⟨D,h1,h2⟩:=h
 exact⟨D,h1.kept hg hne.symm,h2⟩
theorem Own.set (h:Own W b m M){a:Addr}(ha:b≠a.block)(u:Value):Own (W.setCell a u) b m M:=by
 obtain⟨D,h1,h2⟩:=h
 exact⟨D,h1.setCell ha u,h2⟩
theorem Own.ne_has {q:Nat}{t:TypeId}{cs:Array Value}(h:Own W b m M)(hc:aB W q t cs):b≠q:=by
 obtain⟨D,⟨es,c,h3,h4⟩,h2⟩:=h
 rintro rfl
 rw[hc] at h3
 cases h3
theorem Own.ne_row {base size n:Nat}{e:TypeId}{v:Value}{xs:List Value}(h:Own W b m M)(hr:W.ownsRow base e size v n xs):v.ownBlock≠some b:=by
 obtain⟨D,⟨es,c,h3,h4⟩,h2⟩:=h
 intro hk
 obtain⟨-,cs',fr,h5⟩:=Cde.aR hr b hk
 rw[h5] at h3
 cases h3
end
section
open Go.RowKit Go.IntWalk Knd
open Cde (In i0 ia kd cd Ins sI aH aJ)
theorem aNo (op:Int):(ewB op=true/\(op=8\/op=10\/op=15\/op=16\/op=17\/op=22\/op=23\/op=24\/op=25))\/(ewB op=false/\(op==8)=false/\(op==10)=false/\(op==15)=false/\(op==16)=false/\(op==17)=false/\(op==22)=false/\(op==23)=false/\(op==24)=false/\(op==25)=false):=by
 cases h:ewB op
 ·right
  refine⟨rfl,?_⟩
  simpa [ewB,and_assoc] using h
 ·left
  refine⟨rfl,?_⟩
  simpa [ewB,or_assoc] using h
theorem aS5 (op:Int)(W:World):Calls Tryz.prog 376 #[.i op] W fun e W'=>e=.returned (.bool (ewB op))/\W'=W:=by
 rcases aNo op with⟨h,h2⟩|⟨h,q0,q1,q2,q3,q4,q5,q6,q7,q8⟩
 ·rw[h]
  clear h
  rcases h2 with rfl|rfl|rfl|rfl|rfl|rfl|rfl|rfl|rfl <;>
  ·go_enter Tryz.func376,Tryz.ntmps376
   go_wp2_with fail
   go_ret
   exact⟨rfl,rfl⟩
 ·rw[h]
  clear h
  go_enter Tryz.func376,Tryz.ntmps376
  go_wp2_with fail
  go_ret
  exact⟨rfl,rfl⟩
theorem aYl {n:In}(h:ewB n.op=true)(h2:n.b < n.a):orI n=⟨n.op,n.b,n.a,n.c,n.k,n.s⟩:=if_pos ⟨h,h2⟩
theorem aYj {n:In}(h:ewB n.op=false):orI n=n:=if_neg (by rw[h];rintro⟨h,-⟩;cases h)
theorem aYk {n:In}(h2:¬n.b < n.a):orI n=n:=if_neg fun h=>h2 h.2
theorem aG5 (n:In)(W:World):Calls Tryz.prog 357 #[.agg (ia n)] W fun e W'=>e=.returned (.agg (ia (orI n)))/\Below W.heap.size W W':=by
 have HE:=aA fun W=>aS5 n.op W
 cases h:ewB n.op
 ·rw[aYj h]
  rw[h] at HE
  clear h
  go_enter Tryz.func357,Tryz.ntmps357
  go_wp2_with (go_at_call 376;refine(HE.o _).mono ?_;rintro e w' ⟨rfl,rfl⟩)
  exact bPr (v:=.agg (ia _)) (by simp[results,Tryz.results357,go_sem]) rfl ⟨rfl,by first|exact bel (aD W _) (aD _ _)|exact bel ((aD W _).setCell (by simp) _) (aD _ _)|exact bel (((aD W _).setCell (by simp) _).setCell (by simp) _) (aD _ _)⟩
 ·by_cases h2:n.b < n.a
  rw[aYl h h2]
  rw[h] at HE
  have q:decide (n.b < n.a)=true:=by simpa using h2
  rotate_left
  rw[aYk h2]
  rw[h] at HE
  have q:decide (n.b < n.a)=false:=by simpa using h2
  rotate_left
  all_goals
   clear h h2
   go_enter Tryz.func357,Tryz.ntmps357
   go_wp2_with (go_at_call 376;refine(HE.o _).mono ?_;rintro e w' ⟨rfl,rfl⟩)
   exact bPr (v:=.agg (ia _)) (by simp[results,Tryz.results357,go_sem]) rfl ⟨rfl,by first|exact bel (aD W _) (aD _ _)|exact bel ((aD W _).setCell (by simp) _) (aD _ _)|exact bel (((aD W _).setCell (by simp) _).setCell (by simp) _) (aD _ _)⟩
end
section
open Go.RowKit Go.IntWalk Knd
open Cde (In i0 ia kd cd Ins sI aH aC aP aJ bE eH aF dL i6 zA aG)
open Vfy (aW rM pJ)
open YticnbcfmbhjbgaaGreatDoor (aB)
open Fld (Fh fE bD oN oH own_ne s4 gI)
theorem lG {V:World}{base:Nat}{v:Value}{L:List In}{ops:Array Oper}{rest:List Oper}{o:Oper}{a:Act}{Q:Exit->Act->World->Prop}
  (hgd:o.guard=none) (s x:Operand) (ho:o.op=.call { callee:=.builtin .append,args:=#[s,x],argTypes:=#[31,31] })
  (hs:a.eval s=v) (hen:V.ownsRow base 132 6 v L.length (dL L)) (hbase:base<=V.heap.size) (b:Nat) (n:In) (hx:a.eval x=.slice (some ⟨b,0,none⟩) 1 1) (hc:aB V b 132 (ia n)) (h3:L.length<=2000000)
  (h:∀ g cap w',w'.ownsRow base 132 6 (.slice (some ⟨g,0,none⟩) (L.length+1) cap) (L++[n]).length (dL (L++[n]))->V.grownBy w' v.ownBlock->wpList Tryz.prog ops Q rest (a.put o.dst (.slice (some ⟨g,0,none⟩) (L.length+1) cap)) w') :
  wpList Tryz.prog ops Q (o::rest) a V:=by
 obtain⟨i0',hi0,hz0,hz1,hz2⟩:=Spn.info_parts oN
 refine wpList_append_lies V hgd s x 31 ho base 132 i0' _ 6 48 Tryz.underlying31 hi0 hz0 hz1 hz2 rfl (by omega) v L.length (dL L) hs hen ⟨b,0,none⟩ 1 1 (i6 n) hx rfl (oH hc) (by simp[Value.oneCell',i6]) (by omega) (by unfold maxLen;omega) (by omega) hbase V.heap.size rfl ?_
 intro g cap w' hown hgrow hat hlt
 refine h g cap w' ?_ hgrow
 rw[Cde.uE,lLa]
 exact hown
abbrev cO:Array Value:=#[.i 0,.i 0,.slice none 0 0,.i 0]
theorem aC4 (n:Nat)(h:n<=1024):∃ cs:Array Value,cs.size=n*6/\∀ w:World,(Instr.makeSlice 31 (.i 0) (.i n)).run Tryz.prog w=.ok (.slice (some ⟨w.heap.size,0,none⟩) 0 n) (w.alloc (.cells cs 132)):=by
 obtain⟨i0',hi,hz0,hz1,hz2⟩:=Spn.info_parts oN
 refine⟨madeCells (Value.agg (ia i0)).cells (n*6),size_madeCells _ _,fun w=>?_⟩
 have:=run_make w 31 132 i0' _ Tryz.underlying31 hi hz0 .i64 .i64 0 n (by omega) (by omega) (by rw[hz2];omega) (by omega)
 rw[hz1] at this
 simp only[iTn] at this
 exact this
theorem aKw (f d o1 o2:Int){a1 a2:Option Addr}{n1 n2 c1 c2:Nat}{M L:List In}{W:World}(hM:Ins W a1 n1 c1 M)(hL:Ins W a2 n2 c2 L)(hn0:0 < n2)(hn:n2<=1000) :
  Calls Tryz.prog 327 #[.agg (cd f d a1 n1 c1 o1),.agg (cd f d a2 n2 c2 o2)] W fun e W' =>
   (aW f d M o1=0/\e=.returned (.agg (cd f d a1 n1 c1 o1))/\Below W.heap.size W W') \/
   (aW f d M o1≠0/\∃ a' c',e=.returned (.agg (cd f d a' n2 c' o2))/\W'.ownsRow W.heap.size 132 6 (.slice a' n2 c') n2 (dL L)/\Below W.heap.size W W'):=by
 have b1:=aD W (.cells (cd f d a1 n1 c1 o1) 33)
 have b2:=bel b1 (aD _ (.cells (cd f d a2 n2 c2 o2) 33))
 have b3:=bel b2 (aD _ (.cells cO 33))
 have h3:=aB.new ((W.alloc (.cells (cd f d a1 n1 c1 o1) 33)).alloc (.cells (cd f d a2 n2 c2 o2) 33)) 33 cO
 rw[wSa,wSa] at h3
 have HF0:Hid (Fh W (((W.alloc (.cells (cd f d a1 n1 c1 o1) 33)).alloc (.cells (cd f d a2 n2 c2 o2) 33)).alloc (.cells cO 33)) (cd f d a1 n1 c1 o1) (cd f d a2 n2 c2 o2) cO) :=
  aA ⟨((aB.new W 33 (cd f d a1 n1 c1 o1)).alloc (.cells (cd f d a2 n2 c2 o2) 33)).alloc (.cells cO 33),(aJ W (.cells (cd f d a1 n1 c1 o1) 33) 33 (cd f d a2 n2 c2 o2)).alloc (.cells cO 33),h3,b3⟩
 have HV:=aA (Vfy.dR f d o1 (hM.later b3))
 have HLI:=aA hL
 clear b1 b2 b3 h3 hM hL
 go_enter Tryz.func327,Tryz.ntmps327
 go_wp2_with fail
 refine HV.o.mono ?_
 rintro e V1 ⟨ga,gc,rfl,hS,hb,-,-⟩
 obtain⟨m,hm⟩:∃ m,rM f d M o1=m:=⟨_,rfl⟩
 obtain⟨co,hco⟩:∃ co,pJ f d M o1=co:=⟨_,rfl⟩
 obtain⟨er,her⟩:∃ er,aW f d M o1=er:=⟨_,rfl⟩
 rw[hm,hco,her]
 have HEr:=aA her
 have hb2:=aD V1 (.cells #[.slice ga m gc,.i co,.i 0] 55)
 have HF1:=aA ((HF0.o.below hb).below hb2)
 obtain⟨x0,x1,x2,x3⟩:=aC (HF0.o.below hb).c
 obtain⟨w0,w1,w2,w3⟩:=aC (HF0.o.below hb).w
 obtain⟨p0,p1,p2,p3⟩:=aC (HF0.o.below hb).r
 have z0:=(HF0.o.below hb).c.lt
 have z1:=(HF0.o.below hb).w.lt
 have z2:=(HF0.o.below hb).r.lt
 clear hm hco her hb hb2 hS HV HF0
 by_cases h0:er=0
 ·have hr:(er==0)=true:=by simpa using h0
  go_upto_region 3 with fail
  obtain⟨V2,hV2⟩:∃ V2,V1.alloc (.cells #[.slice ga m gc,.i co,.i 0] 55)=V2:=⟨_,rfl⟩
  rw[hV2] at HF1 ⊢
  clear x0 x1 x2 x3 w0 w1 w2 w3 p0 p1 p2 p3 z0 z1 z2 hV2
  obtain⟨x0,x1,x2,x3⟩:=aC HF1.o.c
  obtain⟨p0,p1,p2,p3⟩:=aC HF1.o.r
  obtain⟨r0,r1,r2,r3⟩:=bD HF1.o.r
  obtain⟨V3,hV3⟩:∃ V3,(((V2.setCell ⟨W.heap.size+1+1,0,none⟩ (.i f)).setCell ⟨W.heap.size+1+1,1,none⟩ (.i d)).setCell ⟨W.heap.size+1+1,2,none⟩ (.slice a1 n1 c1)).setCell ⟨W.heap.size+1+1,3,none⟩ (.i o1)=V3:=⟨_,rfl⟩
  have HF2:Hid (Fh W V3 (cd f d a1 n1 c1 o1) (cd f d a2 n2 c2 o2) (cd f d a1 n1 c1 o1)):=aA (by rw[<-hV3];exact HF1.o.put (.i f) (.i d) (.slice a1 n1 c1) (.i o1))
  go_wp2_with fail
  obtain⟨q0,q1,q2,q3⟩:=aC HF2.o.r
  exact bPr (v:=.agg (cd f d a1 n1 c1 o1)) (by simp[results,Tryz.results327,go_sem,q0,q1,q2,q3]) rfl (.inl ⟨HEr.o.trans h0,rfl,HF2.o.lo⟩)
 ·have hr:(er==0)=false:=by simpa using h0
  go_upto_region 4 with fail
  obtain⟨V2,hV2⟩:∃ V2,V1.alloc (.cells #[.slice ga m gc,.i co,.i 0] 55)=V2:=⟨_,rfl⟩
  rw[hV2] at HF1 ⊢
  clear x0 x1 x2 x3 w0 w1 w2 w3 p0 p1 p2 p3 z0 z1 z2 hV2
  obtain⟨x0,x1,x2,x3⟩:=aC HF1.o.w
  have HCl:=aA (fE ((HLI.o.later HF1.o.lo).later (aF V2)) (by omega) hn0)
  have HS:=aA fun V3 (hb:Below V2.drew.heap.size V2.drew V3)=>(HF1.o.below (bel (aF V2) hb))
  go_region_held3 (fun w'=>w'.cell? ⟨W.heap.size+1,0,none⟩=some (.i f)/\w'.cell? ⟨W.heap.size+1,1,none⟩=some (.i d)/\w'.cell? ⟨W.heap.size+1,2,none⟩=some (.slice a2 n2 c2)/\w'.cell? ⟨W.heap.size+1,3,none⟩=some (.i o2))
   (first|exact⟨x0,x1,x2,x3⟩|exact⟨k0,k1,k2,k3⟩|go_keep)
   ((first
    | (go_at_call 70;refine HCl.o.mono ?_;rintro e V3 ⟨a',c',rfl,hO,hb⟩;have HF3:=aA (HS.o V3 hb);obtain⟨k0,k1,k2,k3⟩:=aC HF3.o.w;obtain⟨p0,p1,p2,p3⟩:=aC HF3.o.r;obtain⟨r0,r1,r2,r3⟩:=bD HF3.o.r)))
  all_goals
   have HO3:=aA (Cde.bS hO (show W.heap.size<=V2.drew.heap.size from HF1.o.lo.size))
   clear k0 k1 k2 k3 p0 p1 p2 p3 r0 r1 r2 r3 hO hb HCl HS x0 x1 x2 x3
   have hq:=own_ne HO3.o HF3.o.r (by decide)
   have HO4:=aA (gI HO3.o hq (.i f) (.i d) (.slice a' n2 c') (.i o2))
   have HF4:=aA (HF3.o.put (.i f) (.i d) (.slice a' n2 c') (.i o2))
   obtain⟨V4,hV4⟩:∃ V4,(((V3.setCell ⟨W.heap.size+1+1,0,none⟩ (.i f)).setCell ⟨W.heap.size+1+1,1,none⟩ (.i d)).setCell ⟨W.heap.size+1+1,2,none⟩ (.slice a' n2 c')).setCell ⟨W.heap.size+1+1,3,none⟩ (.i o2)=V4:=⟨_,rfl⟩
   unfold s4 at HO4 HF4
   rw[hV4] at HO4 HF4 ⊢
   clear hV4 hq HF3 HO3
   go_wp2_with fail
   obtain⟨q0,q1,q2,q3⟩:=aC HF4.o.r
   exact bPr (v:=.agg (cd f d a' n2 c' o2)) (by simp[results,Tryz.results327,go_sem,q0,q1,q2,q3]) rfl (.inr ⟨by rw[HEr.o];exact h0,_,_,rfl,HO4.o,HF4.o.lo⟩)
end
section
open Go.RowKit Go.IntWalk Knd
open Cde (In i0 ia kd cd Ins sI aH aC aP aJ bE eH aF dL i6 zA aG)
open Fld (dH gP)
open Vfy (aW)
open YticnbcfmbhjbgaaGreatDoor (aB)
open Fld (Fb Fc iE aC6 own_ne jQ s6 aDv)
structure Fm (W V:World)(cv:Array Value)(mv tv:Value)(M:List In)(T:List Int)(b m:Nat)(N:List In):Prop where
 f:Fb W V cv mv tv M T
 o:Own V b m N
 hb:W.heap.size<=b
theorem Fm.below {W V V':World}{cv:Array Value}{mv tv:Value}{M N:List In}{T:List Int}{b m:Nat}(h:Fm W V cv mv tv M T b m N)(hb:Below V.heap.size V V'):Fm W V' cv mv tv M T b m N:=⟨h.f.below hb,h.o.below hb,h.hb⟩
theorem Fm.growM {W V w':World}{cv:Array Value}{mv tv mv':Value}{M M' N:List In}{T:List Int}{b m:Nat}(h:Fm W V cv mv tv M T b m N)(hg:V.grownBy w' mv.ownBlock)(hO:w'.ownsRow W.heap.size 132 6 mv' M'.length (dL M')):Fm W w' cv mv' tv M' T b m N :=
 ⟨h.f.growM hg hO,h.o.kept hg (h.o.ne_row h.f.m),h.hb⟩
theorem Fm.growT {W V w':World}{cv:Array Value}{mv tv tv':Value}{M N:List In}{T T':List Int}{b m:Nat}(h:Fm W V cv mv tv M T b m N)(hg:V.grownBy w' tv.ownBlock)(hO:w'.ownsRow W.heap.size 3 1 tv' T'.length (iD T')):Fm W w' cv mv tv' M T' b m N :=
 ⟨h.f.growT hg hO,h.o.kept hg (h.o.ne_row h.f.t),h.hb⟩
theorem Fm.mono {W V:World}{cv:Array Value}{mv tv:Value}{M N:List In}{T:List Int}{b m m':Nat}(h:Fm W V cv mv tv M T b m N)(hm:m<=m'):Fm W V cv mv tv M T b m' N:=⟨h.f,h.o.mono hm,h.hb⟩
theorem aF2 {V w':World}{base size n b:Nat}{e:TypeId}{v:Value}{xs:List Value}(h:V.ownsRow base e size v n xs)(hg:V.grownBy w' (some b))(hne:v.ownBlock≠some b):w'.ownsRow base e size v n xs:=h.kept hg (.inr hne)
structure Fn (W V:World)(cv:Array Value)(mv tv:Value)(M:List In)(T:List Int)(g:Nat)(n:In)(b m:Nat)(N:List In):Prop where
 c:Fc W V cv mv tv M T g n
 o:Own V b m N
 hb:W.heap.size<=b
theorem Fn.m {W V:World}{cv:Array Value}{mv tv:Value}{M N:List In}{T:List Int}{g b m:Nat}{n:In}(h:Fn W V cv mv tv M T g n b m N):Fm W V cv mv tv M T b m N:=⟨h.c.f,h.o,h.hb⟩
theorem Fn.below {W V V':World}{cv:Array Value}{mv tv:Value}{M N:List In}{T:List Int}{g b m:Nat}{n:In}(h:Fn W V cv mv tv M T g n b m N)(hb:Below V.heap.size V V'):Fn W V' cv mv tv M T g n b m N:=⟨h.c.below hb,h.o.below hb,h.hb⟩
theorem Fn.put {W V:World}{cv:Array Value}{mv tv:Value}{M N:List In}{T:List Int}{g b m:Nat}{n:In}(h:Fn W V cv mv tv M T g n b m N)(k:In):Fn W (s6 V g k) cv mv tv M T g k b m N :=
 have hg:=h.o.ne_has h.c.n
 ⟨h.c.put k,(((((h.o.set (a:=⟨g,0,none⟩) hg _).set (a:=⟨g,1,none⟩) hg _).set (a:=⟨g,2,none⟩) hg _).set (a:=⟨g,3,none⟩) hg _).set (a:=⟨g,4,none⟩) hg _).set (a:=⟨g,5,none⟩) hg _,h.hb⟩
theorem Fm.with {W V:World}{cv:Array Value}{mv tv:Value}{M N:List In}{T:List Int}{b m:Nat}(h:Fm W V cv mv tv M T b m N)(n:In):Fn W (V.alloc (.cells (ia n) 132)) cv mv tv M T V.heap.size n b m N :=
 ⟨h.f.with n,h.o.below (aD _ _),h.hb⟩
theorem Fn.tab {W V w':World}{cv:Array Value}{mv tv:Value}{M N N':List In}{T:List Int}{g b m m':Nat}{n:In}(h:Fn W V cv mv tv M T g n b m N)(hg:V.grownBy w' (some b))(hO:Own w' b m' N'):Fn W w' cv mv tv M T g n b m' N':=by
 have h1:=h.o.ne_has h.c.f.c
 have h2:=h.o.ne_has h.c.f.o
 have h3:=h.o.ne_has h.c.n
 refine⟨⟨⟨h.c.f.c.kept hg (fun e=>by cases e;exact h1 rfl),h.c.f.o.kept hg (fun e=>by cases e;exact h2 rfl),aF2 h.c.f.m hg (h.o.ne_row h.c.f.m),aF2 h.c.f.t hg (h.o.ne_row h.c.f.t),h.c.f.lo.grown hg h.c.f.lo.size fun k hk=>by cases hk;exact h.hb⟩,h.c.n.kept hg (fun e=>by cases e;exact h3 rfl),h.c.hb,h.c.hm⟩,hO,h.hb⟩
theorem aY9 {M:List In}{T:List Int}{n m:In}(h:shM n T=m):shS (M,T) n=(M++[m],T++[((M.idxOf m:Nat):Int)]):=by
 simp[shS,h]
theorem aEz (f d out:Int){a:Option Addr}{n cap:Nat}{L:List In}{W:World}(hL:Ins W a n cap L)(h:aW f d L out=0) :
  Calls Tryz.prog 328 #[.agg (cd f d a n cap out)] W fun e W'=>∃ a' c',e=.returned (.agg (cd f d a' n c' (shO L out)))/\W'.ownsRow W.heap.size 132 6 (.slice a' n c') n (dL (nV L).1)/\Below W.heap.size W W':=by
 obtain⟨mc,-⟩:=Vfy.aI h
 obtain⟨-,m1,m2,o0,o1,-⟩:=Cde.aQ mc
 rw[hL.len] at m1 m2 o1
 obtain⟨o,rfl⟩:∃ o:Nat,out=o:=⟨out.toNat,by omega⟩
 obtain⟨cs1,hs1,hmk1⟩:=aC4 n (by omega)
 obtain⟨cs2,hs2,hmk2⟩:=aC6 n (by omega)
 have hmk3:=aX6 (n:Int)
 have HLI:=aA hL
 have HLn:=aA hL.len
 have HOk:=aA fun k (hk:k < n)=>bBh (bBx h (k:=k) (by rw[hL.len];exact hk)) (by omega)
 have HSu:=aA fun k (hk:k < n)=>aAb (L:=L) (k:=k) (by rw[hL.len];exact hk)
 have HF0:Hid (Fm W (((((W.alloc (.cells (cd f d a n cap (o:Int)) 33)).alloc (.cells cO 33)).alloc (.cells cs1 132)).alloc (.cells cs2 3)).alloc (.map #[] 0)) (cd f d a n cap (o:Int)) (.slice (some ⟨W.heap.size+1+1,0,none⟩) 0 n) (.slice (some ⟨W.heap.size+1+1+1,0,none⟩) 0 n) [] [] (W.heap.size+1+1+1+1) 0 []):=by
  have b1:=aD W (.cells (cd f d a n cap (o:Int)) 33)
  have b2:=bel b1 (aD _ (.cells cO 33))
  have b3:=bel b2 (aD _ (.cells cs1 132))
  have b4:=bel b3 (aD _ (.cells cs2 3))
  have h1:=((aB.new W 33 (cd f d a n cap (o:Int))).alloc (.cells cO 33)).alloc (.cells cs1 132)
  have h2:=((aJ W (.cells (cd f d a n cap (o:Int)) 33) 33 cO).alloc (.cells cs1 132))
  have h3:=aB.new ((W.alloc (.cells (cd f d a n cap (o:Int)) 33)).alloc (.cells cO 33)) 132 cs1
  have h4:=aB.new (((W.alloc (.cells (cd f d a n cap (o:Int)) 33)).alloc (.cells cO 33)).alloc (.cells cs1 132)) 3 cs2
  have h5:=Own.made ((((W.alloc (.cells (cd f d a n cap (o:Int)) 33)).alloc (.cells cO 33)).alloc (.cells cs1 132)).alloc (.cells cs2 3))
  rw[wSa,wSa] at h3
  rw[wSa,wSa,wSa] at h4
  rw[wSa,wSa,wSa,wSa] at h5
  exact⟨Fb.below ⟨h1.alloc _,h2.alloc _,jQ (h3.alloc _) hs1 (by omega) (by omega),jQ h4 hs2 (by omega) (by omega),b4⟩ (aD _ _),h5,by omega⟩
 clear hL h mc hs1 hs2
 go_enter Tryz.func328,Tryz.ntmps328
 go_wp2_with fail
 clear hmk1 hmk2 hmk3
 generalize hgm:W.heap.size+1+1+1+1=mb at *
 clear hgm
 go_loopw [3,4,25] (fun mv tv i wr=>∃(k gm cm gt ct:Nat) (M:List In) (T:List Int),k<=n/\i=.i k/\mv=.slice (some ⟨gm,0,none⟩) k cm/\tv=.slice (some ⟨gt,0,none⟩) k ct/\Hid (nV (L.take k)=(M,T))/\Hid (M.length=k)/\Hid (T.length=k)/\Hid (Fm W wr (cd f d a n cap (o:Int)) (.slice (some ⟨gm,0,none⟩) k cm) (.slice (some ⟨gt,0,none⟩) k ct) M T mb k M)) (fun _ _ i _=>n-(intOf i).toNat)
 case atStart=>exact⟨0,_,_,_,_,[],[],nZl _,rfl,rfl,rfl,aA rfl,aA rfl,aA rfl,HF0⟩
 case round =>
  obtain⟨k,gm,cm,gt,ct,M,T,hk,rfl,rfl,rfl,HM,HMl,HTl,HF⟩:=hrel
  rename World=>V
  clear HF0
  by_cases hlt:k < n
  ·obtain⟨b,off,rfl,-,hat⟩:=(HLI.o.later HF.o.f.lo).at (by omega)
   obtain⟨e0,e1,e2,e3,e4,e5⟩:=hat k hlt
   clear hat
   have hi0:(0:Int)<=k:=by omega
   have hi1:(k:Int) < n:=by omega
   have hOk:=HOk.o k hlt
   have hSu:=HSu.o k hlt
   rw[HM.o] at hOk hSu
   generalize L.getD k i0=q at *
   have HC0:=aA (HF.o.with q)
   have HTh:=aA (gP q (HC0.o.c.f.ints HTl.o))
   have HOr:=aA fun V=>aG5 (dH q T) V
   rw[show orI (dH q T)=shM q T from rfl] at HOr
   dsimp only at hOk
   obtain⟨m,hm⟩:∃ m,shM q T=m:=⟨_,rfl⟩
   rw[aY9 hm] at hSu
   rw[hm] at HOr hOk
   have HZ:=aA hSu
   have HW:=aA hOk
   clear hOk hSu hm
   go_wp2_with fail
   refine HTh.o.mono ?_
   rintro e V1 ⟨rfl,hb⟩
   have HC1:=aA (HC0.o.below hb)
   clear hb HC0 HTh e0 e1 e2 e3 e4 e5
   generalize dH q T=m0 at *
   generalize hgb:V.heap.size=gb at *
   go_wp2_with fail
   refine(HOr.o _).mono ?_
   rintro e V2 ⟨rfl,hb⟩
   have HC2:=aA (HC1.o.below hb)
   clear hb HC1 HOr
   have hb0:=HC2.o.c.hb
   have hb1:W.heap.size < gb:=by omega
   obtain⟨e0,e1,e2,e3,e4,e5⟩:=aH HC2.o.c.n
   obtain⟨r0,r1,r2,r3,r4,r5⟩:=aDv HC2.o.c.n
   obtain⟨V3,hV3⟩:∃ V3,(((((V2.setCell ⟨gb,0,none⟩ (.i m.op)).setCell ⟨gb,1,none⟩ (.i m.a)).setCell ⟨gb,2,none⟩ (.i m.b)).setCell ⟨gb,3,none⟩ (.i m.c)).setCell ⟨gb,4,none⟩ (.i m.k)).setCell ⟨gb,5,none⟩ (.i m.s)=V3:=⟨_,rfl⟩
   have HC3:Hid (Fn W V3 (cd f d (some ⟨b,off,none⟩) n cap (o:Int)) (.slice (some ⟨gm,0,none⟩) k cm) (.slice (some ⟨gt,0,none⟩) k ct) M T gb m mb k M):=aA (by rw[<-hV3];exact HC2.o.put m)
   go_upto_region 8 with fail
   clear hV3 HC2 e0 e1 e2 e3 e4 e5 r0 r1 r2 r3 r4 r5
   obtain⟨e0,e1,e2,e3,e4,e5⟩:=aH HC3.o.c.n
   by_cases hin:m ∈ M
   ·have hd:decide (m ∈ M)=true:=by simpa using hin
    have HN:=aA (HC3.o.o.old hin)
    obtain⟨z,hz⟩:∃ z,M.idxOf m=z:=⟨_,rfl⟩
    rw[hz] at HZ
    have hd2:(if m ∈ M then((M.idxOf m:Nat):Int) else 0)=(z:Int):=by rw[if_pos hin,hz]
    clear hz
    have HN5:=aA (aB.new V3 132 (ia m))
    have HF5:Hid (Fm W (V3.alloc (.cells (ia m) 132)) (cd f d (some ⟨b,off,none⟩) n cap (o:Int)) (.slice (some ⟨gm,0,none⟩) k cm) (.slice (some ⟨gt,0,none⟩) k ct) M T mb k (M++[m])):=aA (Fm.below ⟨HC3.o.c.f,HN.o,HC3.o.hb⟩ (aD V3 (.cells (ia m) 132)))
    go_wp2_with (first
     | (at_lookup;refine aJ7 rfl _ _ rfl rfl rfl HC3.o.o HW.o ?_;rw[hd,hd2])
     | (at_builtin;refine lG rfl _ _ rfl rfl HF5.o.f.m HF5.o.f.lo.size _ m rfl HN5.o (by rw[HMl.o];omega) ?_;intro g cap' w2 hown hgr;have HF6:=aA (HF5.o.growM hgr hown);have HF7:=aA (HF6.o.below (aD w2 (.cells #[.i (z:Int)] 3)));have HN7:=aA (aB.new w2 3 #[.i (z:Int)]);clear hown hgr e0 e1 e2 e3 e4 e5)
     | (at_builtin;refine iE rfl _ _ rfl rfl HF7.o.f.t HF7.o.f.lo.size _ (z:Int) rfl HN7.o (by rw[HTl.o];omega) ?_;intro g2 cap2 w3 hown2 hgr2))
    have HF8:=aA ((HF7.o.growT hgr2 hown2).mono (Nat.le_succ k))
    clear hown2 hgr2
    rw[HMl.o,HTl.o] at HF8 ⊢
    go_wp2_with fail
    go_roundw
    case rel=>exact⟨k+1,_,_,_,_,M++[m],T++[(z:Int)],by omega,by go_num,rfl,rfl,HZ,aA (by simp[HMl.o]),aA (by simp[HTl.o]),HF8⟩
    case measure=>simp[intOf];omega
   ·have hd:decide (m ∈ M)=false:=by simpa using hin
    have hd2:(if m ∈ M then((M.idxOf m:Nat):Int) else 0)=0:=if_neg hin
    have hz:M.idxOf m=k:=by rw[List.idxOf_eq_length hin,HMl.o]
    rw[hz] at HZ
    go_wp2_with (first
     | (at_lookup;refine aJ7 rfl _ _ rfl rfl rfl HC3.o.o HW.o ?_;rw[hd,hd2])
     | (at_mapUpdate;refine aZ0 rfl _ _ _ rfl rfl rfl k rfl HMl.o HC3.o.o HW.o hin (by omega) (by omega) ?_;intro V4 hO4 hg4;have HC4:=aA (HC3.o.tab hg4 hO4);clear hO4 hg4 e0 e1 e2 e3 e4 e5;obtain⟨e0,e1,e2,e3,e4,e5⟩:=aH HC4.o.c.n;have HN5:=aA (aB.new V4 132 (ia m));have HF5:=aA (HC4.o.m.below (aD V4 (.cells (ia m) 132))))
     | (at_builtin;refine lG rfl _ _ rfl rfl HF5.o.f.m HF5.o.f.lo.size _ m rfl HN5.o (by rw[HMl.o];omega) ?_;intro g cap' w2 hown hgr;have HF6:=aA (HF5.o.growM hgr hown);have HF7:=aA (HF6.o.below (aD w2 (.cells #[.i (k:Int)] 3)));have HN7:=aA (aB.new w2 3 #[.i (k:Int)]);clear hown hgr e0 e1 e2 e3 e4 e5)
     | (at_builtin;refine iE rfl _ _ rfl rfl HF7.o.f.t HF7.o.f.lo.size _ (k:Int) rfl HN7.o (by rw[HTl.o];omega) ?_;intro g2 cap2 w3 hown2 hgr2))
    have HF8:=aA (HF7.o.growT hgr2 hown2)
    clear hown2 hgr2
    rw[HMl.o,HTl.o] at HF8 ⊢
    go_wp2_with fail
    go_roundw
    case rel=>exact⟨k+1,_,_,_,_,M++[m],T++[(k:Int)],by omega,by go_num,rfl,rfl,HZ,aA (by simp[HMl.o]),aA (by simp[HTl.o]),HF8⟩
    case measure=>simp[intOf];omega
  ·obtain rfl:k=n:=by omega
   have hM:=HM.o
   rw[lTl (by rw[HLn.o];exact nLr _)] at hM
   have HM2:=aA hM
   obtain⟨c0,c1,c2,c3⟩:=aC HF.o.f.c
   have hf0:=HF.o.f.o.frozen 0
   have hf1:=HF.o.f.o.frozen 1
   have hf2:=HF.o.f.o.frozen 2
   have hf3:=HF.o.f.o.frozen 3
   obtain⟨p0,p1,p2,p3⟩:=aC HF.o.f.o
   obtain⟨b2,o2,e2',-,hat⟩:=(HF.o.f.ints HTl.o).at (by omega)
   cases e2'
   have t0:=hat o (by omega)
   rw[nZa] at t0
   have hw0:W.heap.size < V.heap.size:=HF.o.f.c.lt
   have hw1:W.heap.size+1 < V.heap.size:=HF.o.f.o.lt
   have i0':(0:Int)<=o:=by omega
   have i1':(o:Int) < k:=by omega
   clear hat hM HM HOk HSu
   obtain⟨z,hz⟩:∃ z,T.getD o 0=z:=⟨_,rfl⟩
   rw[hz] at t0
   have HZ:=aA hz
   clear hz
   go_wp2_with fail
   go_region
   have hq:(Value.slice (some ⟨gm,0,none⟩) k cm).ownBlock≠some (W.heap.size+1):=own_ne HF.o.f.m HF.o.f.o (by decide)
   have HO5:=aA (((((HF.o.f.o.set 0 (.i f)).set 1 (.i d)).set 2 (.slice (some ⟨gm,0,none⟩) k cm)).set 3 (.i z)).below (aF _))
   have HM5:=aA ((ownsRow_setCell_other (ownsRow_setCell_other (ownsRow_setCell_other (ownsRow_setCell_other HF.o.f.m (a:=⟨W.heap.size+1,0,none⟩) hq (.i f)) (a:=⟨W.heap.size+1,1,none⟩) hq (.i d)) (a:=⟨W.heap.size+1,2,none⟩) hq (.slice (some ⟨gm,0,none⟩) k cm)) (a:=⟨W.heap.size+1,3,none⟩) hq (.i z)).drew)
   have HB5:=aA (((((HF.o.f.lo.setCell (p:=⟨W.heap.size+1,0,none⟩) (by simp) (.i f)).setCell (p:=⟨W.heap.size+1,1,none⟩) (by simp) (.i d)).setCell (p:=⟨W.heap.size+1,2,none⟩) (by simp) (.slice (some ⟨gm,0,none⟩) k cm)).setCell (p:=⟨W.heap.size+1,3,none⟩) (by simp) (.i z)).drew)
   obtain⟨V5,hV5⟩:∃ V5,((((V.setCell ⟨W.heap.size+1,0,none⟩ (.i f)).setCell ⟨W.heap.size+1,1,none⟩ (.i d)).setCell ⟨W.heap.size+1,2,none⟩ (.slice (some ⟨gm,0,none⟩) k cm)).setCell ⟨W.heap.size+1,3,none⟩ (.i z)).drew=V5:=⟨_,rfl⟩
   rw[hV5] at HO5 HM5 HB5 ⊢
   obtain⟨x0,x1,x2,x3⟩:=aC HO5.o
   rw[HMl.o] at HM5
   clear hV5 c0 c1 c2 c3 p0 p1 p2 p3 hf0 hf1 hf2 hf3 t0 hq
   go_wp2_with fail
   have HR:Hid ((nV L).1=M/\shO L (o:Int)=z):=aA (by rw[shO,HM2.o];exact⟨rfl,HZ.o⟩)
   exact bPr (v:=.agg (cd f d (some ⟨gm,0,none⟩) k cm z)) (by simp[results,Tryz.results328,go_sem,x0,x1,x2,x3]) rfl ⟨_,_,by rw[HR.o.2],by rw[HR.o.1];exact HM5.o,HB5.o⟩
end
open Go.RowKit Go.IntWalk Knd
open Cde (In i0 ia kd cd Ins sI aH aC aP aJ bE eH aF dL i6)
open Vfy (aW rM pJ)
open YticnbcfmbhjbgaaGreatDoor (aB)
open Fld (Fg bD own_ne s4 gI)
variable {d f out:Int} {L:List In} {n:Nat}
def mM (f d:Int)(L:List In)(out:Int):List In:=if aW f d L out=0 then sdL f d L out else[]
def foU (f d:Int)(L:List In)(out:Int):Int:=if aW f d L out=0 then sdO f d L out else 0
def yO (f d:Int)(L:List In)(out x:Int):Int:=if aW f d L out=0 then x else 0
def sF (w:World)(f d:Int)(L:List In)(out:Int)(e:Ending)(W':World):Prop :=
 ∃ a c,e=.returned (.tuple #[.agg (cd (yO f d L out f) (yO f d L out d) a (mM f d L out).length c (foU f d L out)),.i (aW f d L out)])/\W'.ownsRow w.heap.size 132 6 (.slice a (mM f d L out).length c) (mM f d L out).length (dL (mM f d L out))/\Below w.heap.size w W'
theorem sF.no {w W':World}{er:Int}(h:aW f d L out=er)(h0:er≠0)(hb:Below w.heap.size w W'):sF w f d L out (.returned (.tuple #[.agg cO,.i er])) W':=by
 subst h
 refine⟨none,0,?_,?_,hb⟩
 ·simp[yO,mM,foU,h0]
 ·rw[mM,if_neg h0];exact⟨rfl,.inl ⟨rfl,rfl⟩⟩
theorem sF.row {w W':World}{I:List In}{u:Int}{a:Option Addr}{c:Nat}(h:aW f d L out=0)(hI:sdL f d L out=I)(hu:sdO f d L out=u)(hn:I.length=n)(hO:W'.ownsRow w.heap.size 132 6 (.slice a n c) n (dL I))(hb:Below w.heap.size w W'):sF w f d L out (.returned (.tuple #[.agg (cd f d a n c u),.i 0])) W':=by
 subst hn hI hu
 refine⟨a,c,?_,?_,hb⟩
 ·simp[yO,mM,foU,h]
 ·rw[mM,if_pos h];exact hO
theorem pY {a1 a2:Option Addr}{c1 c2:Nat}{W:World}(hL:L.length=n)(hO:W.ownsRow 0 132 6 (.slice a1 n c1) n (dL (nV L).1))(hI:Ins W a2 n c2 L)(hn0:0 < n)(hn:n<=1000) :
  Calls Tryz.prog 327 #[.agg (cd f d a1 n c1 (shO L out)),.agg (cd f d a2 n c2 out)] W fun e W'=>∃ a' c',e=.returned (.agg (cd f d a' n c' (sdO f d L out)))/\(∀ base,W.ownsRow base 132 6 (.slice a1 n c1) n (dL (nV L).1)->base<=W.heap.size->W'.ownsRow base 132 6 (.slice a' n c') n (dL (sdL f d L out)))/\Below W.heap.size W W':=by
 obtain⟨a',c',e',hM,-⟩:=Ins.of_owns hO
 cases e'
 refine(aKw f d (shO L out) out hM hI hn0 hn).mono ?_
 rintro e W' (⟨h0,rfl,hb⟩|⟨h0,a',c',rfl,ho,hb⟩)
 ·exact⟨_,_,by rw[sdO,if_pos h0],fun base h _=>by rw[sdL,if_pos h0];exact Cde.bI h hb,hb⟩
 ·exact⟨_,_,by rw[sdO,if_neg h0],fun base _ h=>by rw[sdL,if_neg h0];exact Cde.bS ho h,hb⟩
theorem aY7 (f d:Int)(L:List In)(out:Int):(sdL f d L out).length=L.length:=by
 unfold sdL
 split
 ·exact(aJy L).1
 ·rfl
theorem aG6 (f d out:Int){a:Option Addr}{cap:Nat}{W:World}(hL:Ins W a n cap L) :
  Calls Tryz.prog 278 #[.agg (cd f d a n cap out)] W (sF W f d L out):=by
 have b1:=aD W (.cells (cd f d a n cap out) 33)
 have b2:=bel b1 (aD _ (.cells cO 33))
 have HF0:Hid (Fg W ((W.alloc (.cells (cd f d a n cap out) 33)).alloc (.cells cO 33)) (cd f d a n cap out) cO) :=
  aA ⟨(aB.new W 33 (cd f d a n cap out)).alloc (.cells cO 33),aJ W (.cells (cd f d a n cap out) 33) 33 cO,b2⟩
 have HV:=aA (Vfy.dR f d out (hL.later b2))
 have HLI:=aA hL
 have HLn:=aA hL.len
 clear b1 b2 hL
 go_enter Tryz.func278,Tryz.ntmps278
 go_wp2_with fail
 refine HV.o.mono ?_
 rintro e V1 ⟨ga,gc,rfl,hS,hb,-,-⟩
 obtain⟨m,hm⟩:∃ m,rM f d L out=m:=⟨_,rfl⟩
 obtain⟨co,hco⟩:∃ co,pJ f d L out=co:=⟨_,rfl⟩
 obtain⟨er,her⟩:∃ er,aW f d L out=er:=⟨_,rfl⟩
 rw[hm,hco,her]
 have HEr:=aA her
 have hb2:=aD V1 (.cells #[.slice ga m gc,.i co,.i 0] 55)
 have HF1:=aA ((HF0.o.below hb).below hb2)
 obtain⟨x0,x1,x2,x3⟩:=aC (HF0.o.below hb).c
 obtain⟨p0,p1,p2,p3⟩:=aC (HF0.o.below hb).r
 have z0:=(HF0.o.below hb).c.lt
 have z1:=(HF0.o.below hb).r.lt
 clear hm hco her hb hb2 hS HV HF0
 by_cases h0:er=0
 ·have hr:(er != 0)=false:=by simpa using h0
  go_upto_region 4 with fail
  obtain⟨V2,hV2⟩:∃ V2,V1.alloc (.cells #[.slice ga m gc,.i co,.i 0] 55)=V2:=⟨_,rfl⟩
  rw[hV2] at HF1 ⊢
  clear x0 x1 x2 x3 p0 p1 p2 p3 z0 z1 hV2
  obtain⟨x0,x1,x2,x3⟩:=aC HF1.o.c
  have h0':=HEr.o.trans h0
  obtain⟨mc,-⟩:=Vfy.aI h0'
  obtain⟨-,m1,m2,o0,o1,-⟩:=Cde.aQ mc
  rw[HLn.o] at m1 m2 o1
  have HFo:=aA (aEz f d out ((HLI.o.later HF1.o.lo).later (aF V2)) h0')
  have HHa:=aA fun(V:World) (a1:Option Addr) (c1:Nat) (hO:V.ownsRow 0 132 6 (.slice a1 n c1) n (dL (nV L).1)) (hI:Ins V a n cap L)=>pY (f:=f) (d:=d) (out:=out) HLn.o hO hI (by omega) (by omega)
  have HS:=aA fun V3 (hb:Below V2.drew.heap.size V2.drew V3)=>(HF1.o.below (bel (aF V2) hb))
  clear mc
  go_region_held3 (fun w'=>w'.cell? ⟨W.heap.size,0,none⟩=some (.i f)/\w'.cell? ⟨W.heap.size,1,none⟩=some (.i d)/\w'.cell? ⟨W.heap.size,2,none⟩=some (.slice a n cap)/\w'.cell? ⟨W.heap.size,3,none⟩=some (.i out))
   (first|exact⟨x0,x1,x2,x3⟩|exact⟨l0,l1,l2,l3⟩|exact⟨k0,k1,k2,k3⟩|go_keep)
   ((first
    | (go_at_call 328;refine HFo.o.mono ?_;rintro e V3 ⟨a',c',rfl,hO,hb⟩;have HF3:=aA (HS.o V3 hb);obtain⟨k0,k1,k2,k3⟩:=aC HF3.o.c)
    | (go_at_call 327;refine(HHa.o _ _ _ (Cde.bS hO (nZl _)) (HLI.o.later HF3.o.lo)).mono ?_;rintro e V4 ⟨a2',c2',rfl,hO4,hb4⟩;have HF4:=aA (HF3.o.below hb4);obtain⟨l0,l1,l2,l3⟩:=aC HF4.o.c;obtain⟨p0,p1,p2,p3⟩:=aC HF4.o.r;obtain⟨r0,r1,r2,r3⟩:=bD HF4.o.r)))
  all_goals
   have HO4:=aA (hO4 W.heap.size (Cde.bS hO (show W.heap.size<=V2.drew.heap.size from HF1.o.lo.size)) HF3.o.lo.size)
   clear k0 k1 k2 k3 l0 l1 l2 l3 p0 p1 p2 p3 r0 r1 r2 r3 hO hb hO4 hb4 HFo HHa HS x0 x1 x2 x3 HF3 h0 hr
   have hq:=own_ne HO4.o HF4.o.r (by decide)
   have hlen:=aY7 f d L out
   rw[HLn.o] at hlen
   generalize hu:sdO f d L out=u at *
   generalize hI:sdL f d L out=I at *
   have HO5:=aA (gI HO4.o hq (.i f) (.i d) (.slice a2' n c2') (.i u))
   have HF5:=aA (HF4.o.put (.i f) (.i d) (.slice a2' n c2') (.i u))
   obtain⟨V5,hV5⟩:∃ V5,(((V4.setCell ⟨W.heap.size+1,0,none⟩ (.i f)).setCell ⟨W.heap.size+1,1,none⟩ (.i d)).setCell ⟨W.heap.size+1,2,none⟩ (.slice a2' n c2')).setCell ⟨W.heap.size+1,3,none⟩ (.i u)=V5:=⟨_,rfl⟩
   unfold s4 at HO5 HF5
   rw[hV5] at HO5 HF5 ⊢
   clear hV5 hq HF4 HO4
   go_wp2_with fail
   obtain⟨q0,q1,q2,q3⟩:=aC HF5.o.r
   exact bPr (v:=.tuple #[.agg (cd f d a2' n c2' u),.i 0]) (by simp[results,Tryz.results278,go_sem,q0,q1,q2,q3]) rfl (sF.row h0' hI hu hlen HO5.o HF5.o.lo)
 ·have hr:(er != 0)=true:=by simpa using h0
  go_upto_region 3 with fail
  obtain⟨V2,hV2⟩:∃ V2,V1.alloc (.cells #[.slice ga m gc,.i co,.i 0] 55)=V2:=⟨_,rfl⟩
  rw[hV2] at HF1 ⊢
  clear x0 x1 x2 x3 p0 p1 p2 p3 z0 z1 hV2
  obtain⟨p0,p1,p2,p3⟩:=aC HF1.o.r
  obtain⟨r0,r1,r2,r3⟩:=bD HF1.o.r
  obtain⟨V3,hV3⟩:∃ V3,(((V2.setCell ⟨W.heap.size+1,0,none⟩ (.i 0)).setCell ⟨W.heap.size+1,1,none⟩ (.i 0)).setCell ⟨W.heap.size+1,2,none⟩ (.slice none 0 0)).setCell ⟨W.heap.size+1,3,none⟩ (.i 0)=V3:=⟨_,rfl⟩
  have HF2:Hid (Fg W V3 (cd f d a n cap out) cO):=aA (by rw[<-hV3];exact HF1.o.put (.i 0) (.i 0) (.slice none 0 0) (.i 0))
  go_wp2_with fail
  obtain⟨q0,q1,q2,q3⟩:=aC HF2.o.r
  exact bPr (v:=.tuple #[.agg cO,.i er]) (by simp[results,Tryz.results278,go_sem,q0,q1,q2,q3]) rfl (sF.no HEr.o h0 HF2.o.lo)
end Go.Proofs.Shr
