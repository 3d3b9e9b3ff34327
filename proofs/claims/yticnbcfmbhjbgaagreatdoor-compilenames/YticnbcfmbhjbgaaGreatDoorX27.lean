import Derived.Test.YticnbcfmbhjbgaaGreatDoorXH
import Derived.Laws.AppendOwn
import Derived.Laws.OwnMore
import Derived.OwnWalk
import Derived.RangeFuncBox
import Derived.RangeFuncNested
import Derived.RangeFuncBound
import Derived.RangeFuncCalls
import Derived.RangeFuncLeaves
import Derived.Shelf.Abstract
import Derived.Shelf.RegionOpen
import Derived.OwnWalkIn
import Derived.TacticsInMore
import Derived.LoopNIn
import Derived.LoopIn
import Derived.Maps.OwnIn
import Derived.Maps.OwnSet
import Derived.DeepKeys4
import Derived.Lib.QuietBelow
import Derived.BigQuiet
import Derived.Deep.RegionWith
import Derived.Test.YticnbcfmbhjbgaaGreatDoorX03
import Derived.Test.YticnbcfmbhjbgaaGreatDoorX05
set_option maxRecDepth 100000
set_option maxHeartbeats 32000000
set_option linter.unusedVariables false
namespace Go.Proofs.Knd
open Go.RowKit
structure Blk where
 back:Int
 coords:Int
 y0:Int
 y1:Int
 x0:Int
 x1:Int
def Blk.cells (b:Blk):List Value:=[.i b.back,.i b.coords,.i b.y0,.i b.y1,.i b.x0,.i b.x1]
def fM (l:List Blk):List Value:=l.flatMap Blk.cells
theorem uY (l:List Blk)(b:Blk):fM (l++[b])=fM l++b.cells:=by simp[fM]
def pK (k:Nat):List Blk:=[⟨0,2,-2,-1,-3,3⟩,⟨0,2,0,0,-3,-1⟩]++(List.range k).map fun j=>⟨(j:Int)+1,2,-1,1,-1,1⟩
def qB (k:Nat):List Blk:=[⟨0,1,0,0,-16,-1⟩]++(List.range k).map fun j=>⟨(j:Int)+1,1,0,0,-4,0⟩
def uB:List Blk:=pK 3
def uS:List Blk:=qB 3
theorem aCe (k:Nat):pK (k+1)=pK k++[⟨(k:Int)+1,2,-1,1,-1,1⟩]:=by simp[pK,List.range_succ]
theorem aC9 (k:Nat):qB (k+1)=qB k++[⟨(k:Int)+1,1,0,0,-4,0⟩]:=by simp[qB,List.range_succ]
def iN (f d:Int):List Blk:=if May f d then(if f=0 then uB else uS) else[]
theorem Tryz.info350:(Tryz.prog.info? 350).map (fun i=>(i.zero,i.size,i.bytes))=some (some (.agg #[.i 0,.i 0,.i 0,.i 0,.i 0,.i 0]),6,48):=by kernel_rfl
theorem info_parts {P:Program}{e:TypeId}{z:Value}{s b:Nat}(h:(P.info? e).map (fun i=>(i.zero,i.size,i.bytes))=some (some z,s,b)) :
  ∃ i,P.info? e=some i/\i.zero=some z/\i.size=s/\i.bytes=b:=by
 cases hi:P.info? e with
 | none=>rw[hi] at h;cases h
 | some i=>rw[hi] at h;simp at h;exact⟨i,rfl,h.1,h.2.1,h.2.2⟩
theorem aAk (w:World)(cs:Array Value)(t:TypeId):∀ j u,cs.toList[j]?=some u->(w.alloc (.cells cs t)).cell? ((⟨w.heap.size,0,none⟩:Addr).add j)=some u:=by
 intro j u h
 have hadd:(⟨w.heap.size,0,none⟩:Addr).add j=⟨w.heap.size,j,none⟩:=by unfold Addr.add;split <;> simp_all
 rw[hadd,cell_of_row _ _ j cs t (0,0) (heap_alloc_new w _)]
 simpa using h
theorem rZ {w wr w1:World}{e:TypeId}{s n:Nat}{v:Value}{xs:List Value}{o:Obj}(hB:Below w.heap.size w wr)(hr:wr.ownsRow w.heap.size e s v n xs)(hg:(wr.alloc o).grownBy w1 v.ownBlock):Below w.heap.size w w1 :=
 (hB.alloc hB.size o).grown hg (by have:=hB.size;simp;omega) (fun k hk=>(hr.lt k hk).1)
theorem aCt {w wr w1:World}{e t:TypeId}{s n A:Nat}{v:Value}{xs:List Value}{o:Obj}{cs:Array Value}{fr:Nat × Nat}(hA:wr.heap[A]?=some (.cells cs t fr))(hte:t≠e)(hr:wr.ownsRow w.heap.size e s v n xs)(hg:(wr.alloc o).grownBy w1 v.ownBlock):w1.heap[A]?=some (.cells cs t fr):=by
 have hlt:A < wr.heap.size:=(aGs.1 hA).1
 have h1:(wr.alloc o).heap[A]?=some (.cells cs t fr):=(Below.heap_alloc wr o A hlt).trans hA
 refine(hg.block A (by simp;omega) (fun h=>?_)).trans h1
 rcases hr.2 with⟨rfl,_⟩|⟨g,cap,cur,rfl,_,hgg,_⟩
 ·simp[Value.ownBlock] at h
 ·simp[Value.ownBlock] at h
  subst h
  rw[hA] at hgg
  simp at hgg
  exact hte hgg.2.1
theorem aBs (d:Int)(w:World)(hm:May 1 d) :
  Calls Tryz.prog 310 #[.agg #[.i 1,.i d]] w fun e w'=>∃ v,e=.returned v/\w'.ownsRow w.heap.size 350 6 v 4 (fM uS)/\Below w.heap.size w w':=by
 obtain⟨i0,hi,hz0,hz1,hz2⟩:=info_parts Tryz.info350
 have hb:=aD w (.cells #[.i 1,.i d] 23)
 go_enter Tryz.func310,Tryz.ntmps310
 go_wp2_with (go_at_call 30;refine(fE _ _ _ hm).mono ?_;rintro e w2 ⟨rfl,hb2⟩;obtain⟨hc2,hf2⟩:=jP hb2)
 have HB2:=aA ((bel hb hb2).alloc (bel hb hb2).size (.cells #[.i 0,.i 1,.i 0,.i 0,.i (-16),.i (-1)] 350))
 have hr0:(w2.alloc (.cells #[.i 0,.i 1,.i 0,.i 0,.i (-16),.i (-1)] 350)).ownsRow w.heap.size 350 6 (.slice (some ⟨w2.heap.size,0,none⟩) 1 1) 1 (fM (qB 0)) :=
  World.ownsRow_lit w2 #[.i 0,.i 1,.i 0,.i 0,.i (-16),.i (-1)] 1 (bel hb hb2).size (by decide) rfl
 have HR:=aA hr0
 clear hr0 hb2 hc2 hf2 hb
 go_loopw [3,4] (fun v i wr=>∃ k:Nat,k<=3/\i=.i ((k:Int)+1)/\(∃ g cap,v=.slice (some ⟨g,0,none⟩) (k+1) cap)/\Hid (wr.ownsRow w.heap.size 350 6 v (k+1) (fM (qB k)))/\Hid (Below w.heap.size w wr)) (fun _ i _=>(4-intOf i).toNat)
 case atStart=>exact⟨0,by omega,rfl,⟨_,_,rfl⟩,HR,HB2⟩
 case round =>
  obtain⟨k,hk,rfl,⟨g,cap,rfl⟩,HR,HB⟩:=hrel
  by_cases hlt:k < 3
  ·go_wp2_with (at_builtin;refine wpList_append_own _ rfl _ _ 347 rfl w.heap.size 350 i0 _ 6 48 Tryz.underlying347 hi hz0 hz1 hz2 rfl (by decide) _ _ _ rfl (HR.o.alloc _) ⟨wr.heap.size,0,none⟩ 1 1 (Blk.cells ⟨(k:Int)+1,1,0,0,-4,0⟩) rfl rfl (aAk _ _ _) (by simp[Blk.cells,Value.oneCell']) (by unfold maxLen;omega) (by omega) (by have:=HB.o.size;simp;omega) ?_;intro v' w1 hown' hgrow _;obtain⟨g',cap',rfl⟩:=ownsRow_succ hown')
   go_roundw
   case rel=>exact⟨k+1,by omega,by go_num,⟨_,_,rfl⟩,aA (by rw[aC9,uY];exact hown'),aA (rZ HB.o HR.o hgrow)⟩
   case measure=>simp[intOf];omega
  ·obtain rfl:k=3:=by omega
   go_wp2
   go_ret
   exact⟨_,rfl,HR.o,HB.o⟩
theorem aBr (d:Int)(w:World)(hm:May 0 d) :
  Calls Tryz.prog 310 #[.agg #[.i 0,.i d]] w fun e w'=>∃ v,e=.returned v/\w'.ownsRow w.heap.size 350 6 v 5 (fM uB)/\Below w.heap.size w w':=by
 obtain⟨i0,hi,hz0,hz1,hz2⟩:=info_parts Tryz.info350
 have hb:=aD w (.cells #[.i 0,.i d] 23)
 go_enter Tryz.func310,Tryz.ntmps310
 go_wp2_with (go_at_call 30;refine(fE _ _ _ hm).mono ?_;rintro e w2 ⟨rfl,hb2⟩;obtain⟨hc2,hf2⟩:=jP hb2)
 have HB1:=aA ((bel hb hb2).alloc (bel hb hb2).size (.cells #[.i 0,.i 2,.i (-2),.i (-1),.i (-3),.i 3,.i 0,.i 2,.i 0,.i 0,.i (-3),.i (-1)] 350))
 have HB2:=aA (HB1.o.alloc HB1.o.size (.cells #[.i (-1),.i 1] 165))
 have hr0:(w2.alloc (.cells #[.i 0,.i 2,.i (-2),.i (-1),.i (-3),.i 3,.i 0,.i 2,.i 0,.i 0,.i (-3),.i (-1)] 350)).ownsRow w.heap.size 350 6 (.slice (some ⟨w2.heap.size,0,none⟩) 2 2) 2 (fM (pK 0)) :=
  World.ownsRow_lit w2 #[.i 0,.i 2,.i (-2),.i (-1),.i (-3),.i 3,.i 0,.i 2,.i 0,.i 0,.i (-3),.i (-1)] 2 (bel hb hb2).size (by decide) rfl
 have HR:=aA (hr0.alloc (.cells #[.i (-1),.i 1] 165))
 have HA:((w2.alloc (.cells #[.i 0,.i 2,.i (-2),.i (-1),.i (-3),.i 3,.i 0,.i 2,.i 0,.i 0,.i (-3),.i (-1)] 350)).alloc (.cells #[.i (-1),.i 1] 165)).heap[w2.heap.size+1]?=some (.cells #[.i (-1),.i 1] 165 (0,0)):=by
  have:=heap_alloc_new (w2.alloc (.cells #[.i 0,.i 2,.i (-2),.i (-1),.i (-3),.i 3,.i 0,.i 2,.i 0,.i 0,.i (-3),.i (-1)] 350)) (.cells #[.i (-1),.i 1] 165)
  rwa[wSa] at this
 have HA:=aA HA
 clear hr0 hb2 hc2 hf2 hb
 go_loopw [5,7] (fun v i wr=>∃ k:Nat,k<=3/\i=.i ((k:Int)+1)/\(∃ g cap,v=.slice (some ⟨g,0,none⟩) (k+2) cap)/\Hid (wr.ownsRow w.heap.size 350 6 v (k+2) (fM (pK k)))/\Hid (Below w.heap.size w wr)/\Hid (wr.heap[w2.heap.size+1]?=some (.cells #[.i (-1),.i 1] 165 (0,0)))) (fun _ i _=>(4-intOf i).toNat)
 case atStart=>exact⟨0,by omega,rfl,⟨_,_,rfl⟩,HR,HB2,HA⟩
 case round =>
  obtain⟨k,hk,rfl,⟨g,cap,rfl⟩,HR,HB,HA⟩:=hrel
  have c0:=cell_of_row wr (w2.heap.size+1) 0 _ 165 (0,0) HA.o
  have c1:=cell_of_row wr (w2.heap.size+1) 1 _ 165 (0,0) HA.o
  simp at c0 c1
  by_cases hlt:k < 3
  ·go_wp2_with (at_builtin;refine wpList_append_own _ rfl _ _ 347 rfl w.heap.size 350 i0 _ 6 48 Tryz.underlying347 hi hz0 hz1 hz2 rfl (by decide) _ _ _ rfl (HR.o.alloc _) ⟨wr.heap.size,0,none⟩ 1 1 (Blk.cells ⟨(k:Int)+1,2,-1,1,-1,1⟩) rfl rfl (aAk _ _ _) (by simp[Blk.cells,Value.oneCell']) (by unfold maxLen;omega) (by omega) (by have:=HB.o.size;simp;omega) ?_;intro v' w1 hown' hgrow _;obtain⟨g',cap',rfl⟩:=ownsRow_succ hown')
   go_roundw
   case rel=>exact⟨k+1,by omega,by go_num,⟨_,_,rfl⟩,aA (by rw[aCe,uY];exact hown'),aA (rZ HB.o HR.o hgrow),aA (aCt HA.o (by decide) HR.o hgrow)⟩
   case measure=>simp[intOf];omega
  ·obtain rfl:k=3:=by omega
   go_wp2
   go_ret
   exact⟨_,rfl,HR.o,HB.o⟩
theorem aDv (f d:Int)(w:World)(hm:¬May f d) :
  Calls Tryz.prog 310 #[.agg #[.i f,.i d]] w fun e w'=>e=.returned (.slice none 0 0)/\Below w.heap.size w w':=by
 have hb:=aD w (.cells #[.i f,.i d] 23)
 go_enter Tryz.func310,Tryz.ntmps310
 go_wp2_with (go_at_call 30;refine(iD _ _ _ hm).mono ?_;rintro e w2 ⟨rfl,hb2⟩;obtain⟨hc2,hf2⟩:=jP hb2)
 go_ret
 exact⟨rfl,bel hb hb2⟩
theorem aF2 (f d:Int)(w:World) :
  Calls Tryz.prog 310 #[.agg #[.i f,.i d]] w fun e w'=>∃ v,e=.returned v/\w'.ownsRow w.heap.size 350 6 v (iN f d).length (fM (iN f d))/\Below w.heap.size w w':=by
 rcases kY f d with⟨hm,rfl⟩|⟨hm,rfl⟩|hm
 ·have e:iN 0 d=uB:=by simp[iN,hm]
  rw[e]
  exact aBr d w hm
 ·have e:iN 1 d=uS:=by simp[iN,hm]
  rw[e]
  exact aBs d w hm
 ·have e:iN f d=[]:=by simp[iN,hm]
  rw[e]
  exact(aDv f d w hm).mono fun e w' ⟨he,hb⟩=>⟨_,he,World.ownsRow_nil _ _ _ _,hb⟩
structure Plc where
 back:Int
 coords:Int
 x:Int
 y:Int
 deriving DecidableEq
def Blk.rows (b:Blk):Nat:=(b.y1+1-b.y0).toNat
def Blk.cols (b:Blk):Nat:=(b.x1+1-b.x0).toNat
def Blk.pls (b:Blk):List Plc:=(List.range b.rows).flatMap fun(t:Nat)=>(List.range b.cols).map fun(s:Nat)=>(⟨b.back,b.coords,b.x0+(s:Int),b.y0+(t:Int)⟩:Plc)
def jE (l:List Blk):List Plc:=l.flatMap Blk.pls
def cnt (l:List Blk)(j:Nat):Nat:=(jE (l.take j)).length
def gI (f d:Int):List Plc:=jE (iN f d)
theorem oQ (n m:Nat)(g:Nat->List Plc)(h:∀ t,(g t).length=m):((List.range n).flatMap g).length=n*m:=by
 induction n with
 | zero=>simp
 | succ n ih=>rw[List.range_succ,List.flatMap_append,lLa,ih];simp[h,Nat.succ_mul]
theorem aAb (n m:Nat)(g:Nat->List Plc)(h:∀ t,(g t).length=m)(t s:Nat)(ht:t < n)(hs:s < m):((List.range n).flatMap g)[t*m+s]?=(g t)[s]?:=by
 induction n with
 | zero=>omega
 | succ n ih =>
  rw[List.range_succ,List.flatMap_append]
  have hl:=oQ n m g h
  by_cases e:t < n
  ·have:t*m+s < n*m:=by
    have:(t+1)*m<=n*m:=Nat.mul_le_mul_right m e
    rw[Nat.succ_mul] at this;omega
   rw[gAl (by omega)]
   exact ih e
  ·obtain rfl:t=n:=by omega
   rw[gAr (by omega),hl]
   simp[Nat.add_sub_cancel_left]
theorem Blk.pls_len (b:Blk):b.pls.length=b.rows*b.cols:=oQ _ _ _ (by simp)
theorem Blk.pls_at (b:Blk)(t s:Nat)(ht:t < b.rows)(hs:s < b.cols):b.pls[t*b.cols+s]?=some ⟨b.back,b.coords,b.x0+(s:Int),b.y0+(t:Int)⟩:=by
 rw[Blk.pls,aAb _ _ _ (by simp) t s ht hs]
 simp[hs]
theorem lU (l:List Blk)(j:Nat)(h:j < l.length):cnt l (j+1)=cnt l j+l[j].rows*l[j].cols:=by
 unfold cnt jE
 rw[lTs h,List.flatMap_append,lLa]
 simp[Blk.pls_len]
theorem aQy (l:List Blk):cnt l l.length=(jE l).length:=by unfold cnt;rw[lTg]
theorem cnt_mono (l:List Blk)(j:Nat)(h:j<=l.length):cnt l j<=(jE l).length:=by
 unfold cnt jE
 conv=>rhs;rw[<-lTd j l]
 rw[List.flatMap_append,lLa];omega
theorem aKl (l:List Blk)(j t s:Nat)(h:j < l.length)(ht:t < l[j].rows)(hs:s < l[j].cols) :
  (jE l)[cnt l j+(t*l[j].cols+s)]?=some ⟨l[j].back,l[j].coords,l[j].x0+(s:Int),l[j].y0+(t:Int)⟩:=by
 have e0:l=l.take j++(l[j]::l.drop (j+1)):=by rw[<-List.drop_eq_getElem_cons h,lTd]
 have e:jE l=jE (l.take j)++(l[j].pls++jE (l.drop (j+1))):=(congrArg jE e0).trans (by simp only[jE,List.flatMap_append,List.flatMap_cons])
 have hlt:t*l[j].cols+s < l[j].pls.length:=by
  rw[Blk.pls_len]
  have:(t+1)*l[j].cols<=l[j].rows*l[j].cols:=Nat.mul_le_mul_right _ ht
  rw[Nat.succ_mul] at this;omega
 rw[e,gAr (by unfold cnt;omega)]
 unfold cnt
 rw[Nat.add_sub_cancel_left,gAl hlt]
 exact Blk.pls_at _ t s ht hs
theorem aJf (l:List Blk)(j i:Nat)(h:j < l.length)(hi:i < 6):(fM l)[j*6+i]?=l[j].cells[i]?:=by
 induction l generalizing j with
 | nil=>simp at h
 | cons b l ih =>
  have hb:b.cells.length=6:=rfl
  have e:fM (b::l)=b.cells++fM l:=by simp[fM]
  cases j with
  | zero=>rw[e,gAl (by omega)];simp
  | succ j =>
   rw[e,gAr (by omega),hb,show (j+1)*6+i-6=j*6+i by omega]
   exact ih j (by simpa using h)
def upto (k:Nat):List (Fin 64):=(List.finRange 64).take k
theorem aFp (k:Nat)(h:k<=64):(upto k).length=k:=by simp[upto];omega
theorem aBh (k:Nat)(h:k < 64):upto (k+1)=upto k++[⟨k,h⟩]:=by
 unfold upto
 rw[lTs (by simpa using h)]
 simp
theorem mW (f d:Int):(gI f d).length < 64/\(iN f d).length<=5/\∀ b ∈ iN f d,0<=b.back/\b.back<=3/\-16<=b.x0/\b.x0<=b.x1/\b.x1<=3/\-2<=b.y0/\b.y0<=b.y1/\b.y1<=1:=by
 unfold gI
 rcases kY f d with⟨hm,rfl⟩|⟨hm,rfl⟩|hm
 ·have e:iN 0 d=uB:=by simp[iN,hm]
  rw[e];decide
 ·have e:iN 1 d=uS:=by simp[iN,hm]
  rw[e];decide
 ·have e:iN f d=[]:=by simp[iN,hm]
  rw[e];decide
theorem aOi (f d:Int):((gI f d).length:Int)=dF f d:=by
 unfold gI
 rcases kY f d with⟨hm,rfl⟩|⟨hm,rfl⟩|hm
 ·have e:iN 0 d=uB:=by simp[iN,hm]
  rw[e,(zs0 hm).2.2.2];decide
 ·have e:iN 1 d=uS:=by simp[iN,hm]
  rw[e,(zs1 hm).2.2.2];decide
 ·have e:iN f d=[]:=by simp[iN,hm]
  rw[e,(zs2 hm).2.2.2];decide
end Go.Proofs.Knd
namespace Go.Proofs.Knd
open Go.RowKit Go.Shelf
variable {B:Nat} {W W':World}
attribute [local go_sem] Oper.semAt_some
structure KeepsIn (B:Nat)(W W':World):Prop where
 size:W.heap.size<=W'.heap.size
 same:∀(k:Nat) (o:Obj),B<=k->W.heap[k]?=some o->o.isCells=true->W'.heap[k]?=some o
theorem KeepsIn.refl (B:Nat)(W:World):KeepsIn B W W:=⟨nLr _,fun _ _ _ h _=>h⟩
theorem KeepsIn.trans {X Y Z:World}(h:KeepsIn B X Y)(k:KeepsIn B Y Z):KeepsIn B X Z :=
 ⟨Nat.le_trans h.size k.size,fun i o hB hi ho=>k.same i o hB (h.same i o hB hi ho) ho⟩
theorem KeepsIn.of_grownBy {row:Option Nat}(hg:W.grownBy W' row)(hrow:∀ j,row=some j->j < B\/∃ o,W.heap[j]?=some o/\o.isCells=false):KeepsIn B W W' :=
 ⟨hg.size,fun k o hB hk ho=>(hg.block k (aGs.1 hk).1 (fun e=>by
  rcases hrow k e.symm with h|⟨o',h1,h2⟩
  ·omega
  ·rw[hk] at h1;cases h1;rw[ho] at h2;cases h2)).trans hk⟩
theorem KeepsIn.of_below (h:Below W.heap.size W W'):KeepsIn B W W' :=
 ⟨h.size,fun k o _ hk _=>(h.block k (aGs.1 hk).1).trans hk⟩
theorem aJ2 {w:World}(W:World)(l:Nat)(o o':Obj)(_:w.heap.size<=l)(h:W.heap[l]?=some o)(hc:o.isCells=false)(_:o.isWalk=false):KeepsIn B W (W.putObj l o') :=
 KeepsIn.of_grownBy (grownBy_putObj' W l o') (fun j e=>by cases e;exact .inr ⟨o,h,hc⟩)
theorem nV (h:Below W.heap.size W W'):W.grownBy W' none:=⟨h.os,h.tape,h.output,h.size,fun k hk _=>h.block k hk⟩
def zp:Plc:=⟨0,0,0,0⟩
def encs (L:List Plc)(i:Fin 64):Array Value :=
 #[.i (i.val:Int),.agg #[.i (L.getD i.val zp).back,.i (L.getD i.val zp).coords,.i (L.getD i.val zp).x,.i (L.getD i.val zp).y]]
theorem aQ5 {L:List Plc}{N:Nat}(h:N < 64){p:Plc}(hp:L[N]?=some p):encs L ⟨N,h⟩=#[.i (N:Int),.agg #[.i p.back,.i p.coords,.i p.x,.i p.y]]:=by
 simp[encs,List.getD,hp]
theorem aZo {w2:World}{base:Nat}{v:Value}{l:List Blk}(h:w2.ownsRow base 350 6 v l.length (fM l)) :
  ∃ a cap,v=.slice a l.length cap/\(l=[]\/∃ g cur,a=some ⟨g,0,none⟩/\base<=g/\w2.heap[g]?=some (.cells cur 350 (0,0))/\∀ i,i < l.length*6->cur[i]?=(fM l)[i]?):=by
 rcases h.2 with⟨rfl,hl⟩|⟨g,cap,cur,rfl,hb,hg,_,_,hsz,htk⟩
 ·exact⟨none,0,by rw[hl],.inl (List.eq_nil_of_length_eq_zero hl)⟩
 ·refine⟨_,_,rfl,.inr ⟨g,cur,rfl,hb,hg,fun i hi=>?_⟩⟩
  rw[<-htk,List.getElem?_take,if_pos hi,Array.getElem?_toList]
theorem aG1 {wr:World}{g:Nat}{cur:Array Value}{l:List Blk}(hg:wr.heap[g]?=some (.cells cur 350 (0,0)))(hc:∀ i,i < l.length*6->cur[i]?=(fM l)[i]?)(j:Nat)(hj:j < l.length) :
  wr.cell? ⟨g,j*6,none⟩=some (.i l[j].back)/\wr.cell? ⟨g,j*6+1,none⟩=some (.i l[j].coords)/\wr.cell? ⟨g,j*6+2,none⟩=some (.i l[j].y0)/\wr.cell? ⟨g,j*6+3,none⟩=some (.i l[j].y1)/\wr.cell? ⟨g,j*6+4,none⟩=some (.i l[j].x0)/\wr.cell? ⟨g,j*6+5,none⟩=some (.i l[j].x1):=by
 have h:=fun i (hi:i < 6)=>(cell_of_row wr g (j*6+i) cur 350 (0,0) hg).trans ((hc _ (by omega)).trans (aJf l j i hj hi))
 exact⟨h 0 (by decide),h 1 (by decide),h 2 (by decide),h 3 (by decide),h 4 (by decide),h 5 (by decide)⟩
theorem aAh {wr:World}{g:Nat}{b:Blk}(hg:wr.heap[g]?=some (.cells #[.i b.back,.i b.coords,.i b.y0,.i b.y1,.i b.x0,.i b.x1] 350 (0,0))) :
  wr.cell? ⟨g,0,none⟩=some (.i b.back)/\wr.cell? ⟨g,1,none⟩=some (.i b.coords)/\wr.cell? ⟨g,2,none⟩=some (.i b.y0)/\wr.cell? ⟨g,3,none⟩=some (.i b.y1)/\wr.cell? ⟨g,4,none⟩=some (.i b.x0)/\wr.cell? ⟨g,5,none⟩=some (.i b.x1):=by
 have h:=fun i=>cell_of_row wr g i _ 350 (0,0) hg
 exact⟨h 0,h 1,h 2,h 3,h 4,h 5⟩
theorem aQg (n:Nat)(hn:1<=n)(l Bk B:Nat)(f d:Int)(J Jx:List (Fin 64)->World->Prop)(W:World)(hB:B<=W.heap.size)
  (hJ:AbidesFrom W.heap.size J)
  (hY:∀ pre x W1,J pre W1->pre.length < (gI f d).length->YieldAt Fence.wide (n-1) Tryz.prog l (encs (gI f d) x) W1 fun e W' =>
   (e=.returned (.bool true)/\J (pre++[x]) W'/\KeepsIn B W1 W')\/(e=.returned (.bool false)/\Jx (pre++[x]) W'))
  (hk0:W.cell? ⟨Bk,0,none⟩=some (.i f)) (hk1:W.cell? ⟨Bk,1,none⟩=some (.i d)) (h0:J [] W) :
  CallsIn Fence.wide n Tryz.prog 309 #[.func (.yield l) #[] #[],.pointer (some ⟨Bk,0,none⟩)] W fun e W'=>(∃ v,e=.returned v) /\
   ((∃ xs,xs=upto (gI f d).length/\J xs W')\/(∃ pre,(∃ k,k<=(gI f d).length/\pre=upto k)/\Jx pre W')):=by
 have hro:Fence.wide.round=none:=rfl
 refine callsIn_of_wp Tryz.func309 rfl trivial ?_ hro
 simp only[Tryz.ntmps309,List.size_toArray,lLc,lLn,Nat.reduceAdd,Nat.reduceSub,Array.replicate_succ,Array.replicate_zero,List.push_toArray,List.append_toArray,List.nil_append,List.cons_append]
 gi_wp2_with (refine⟨trivial,?_⟩;gi_at_call 310;refine(callsIn_wide.2 (aF2 f d _)).mono ?_;rintro e w2 ⟨v,rfl,hown,hb2⟩;obtain⟨va,vc,rfl,hrect⟩:=aZo hown;have HRect:=aA hrect;have HB2:=aA hb2;clear hown hb2 hrect;obtain⟨LL,hLL⟩:∃ LL,LL=iN f d:=⟨_,rfl⟩;rw[<-hLL] at HRect ⊢;have HLL:=aA hLL;clear hLL)
 have HJ2:Hid (J (upto 0) w2):=hJ _ _ _ none h0 (nV HB2.o) (fun r e=>by cases e)
 obtain⟨hlen,h5,hbd⟩:=mW f d
 rw[<-HLL.o] at h5 hbd
 have HN:=aA hlen
 have HBd:=aA hbd
 have HY:=aA hY
 clear hlen hbd hY
 gi_loopw [3,11] (fun nv iv wr=>∃ j N:Nat,j<=LL.length/\iv=.i j/\nv=.i N/\N < 64/\Hid (N=cnt LL j)/\Hid (J (upto N) wr)/\Hid (KeepsIn B w2 wr)) (fun _ iv _=>LL.length-(intOf iv).toNat)
 case atStart=>exact⟨0,0,nZl _,rfl,rfl,by decide,rfl,HJ2,KeepsIn.refl _ _⟩
 case round =>
  obtain⟨j,N,hj,rfl,rfl,hN64,HNc,HJr,HKr⟩:=hrel
  by_cases hlt:j < LL.length
  ·rcases HRect.o with hnil|⟨g,cur,rfl,hgb,hgc,hcs⟩
   ·rw[hnil] at hlt;simp at hlt
   have HG:Hid (wr.heap[g]?=some (.cells cur 350 (0,0))):=HKr.o.same g _ (by omega) hgc rfl
   obtain⟨c0,c1,c2,c3,c4,c5⟩:=aG1 HG.o hcs j hlt
   have HCS:=aA hcs
   have HGC:=aA hgc
   clear hcs hgc HRect
   obtain⟨bk,hbk⟩:∃ bk,bk=LL[j]:=⟨_,rfl⟩
   rw[<-hbk] at c0 c1 c2 c3 c4 c5
   have HBK:=aA hbk
   obtain⟨q1,q2,q3,q4,q5,q6,q7,q8⟩:=HBd.o bk (by rw[hbk];exact List.getElem_mem hlt)
   clear hbk
   have hbx:(wr.alloc (.cells #[.i bk.back,.i bk.coords,.i bk.y0,.i bk.y1,.i bk.x0,.i bk.x1] 350)).heap[wr.heap.size]?=some (.cells #[.i bk.back,.i bk.coords,.i bk.y0,.i bk.y1,.i bk.x0,.i bk.x1] 350 (0,0)):=heap_alloc_new wr _
   have HBx:=aA hbx
   have HJ3:Hid (J (upto N) (wr.alloc (.cells #[.i bk.back,.i bk.coords,.i bk.y0,.i bk.y1,.i bk.x0,.i bk.x1] 350))):=hJ _ _ _ none HJr.o (World.grownBy_alloc _ _ none) (fun r e=>by cases e)
   have HK3:Hid (KeepsIn B w2 (wr.alloc (.cells #[.i bk.back,.i bk.coords,.i bk.y0,.i bk.y1,.i bk.x0,.i bk.x1] 350))):=HKr.o.trans (KeepsIn.of_below (aD _ _))
   have HBb:Hid (B<=wr.heap.size):=Nat.le_trans hB (Nat.le_trans HB2.o.size HKr.o.size)
   have HRows:Hid (N+bk.rows*bk.cols < 64/\N+bk.rows*bk.cols=cnt LL (j+1)/\cnt LL (j+1)<=(gI f d).length):=by
    have h1:=lU LL j hlt
    have h2:=cnt_mono LL (j+1) hlt
    have h3:=HN.o
    have h4:=HNc.o
    unfold gI at h3 ⊢
    rw[<-HLL.o] at h3 ⊢
    rw[HBK.o]
    exact⟨by omega,by omega,h2⟩
   clear hbx
   gi_wp2
   clear c0 c1 c2 c3 c4 c5 HG HJr HKr HJ2
   generalize (wr.alloc (.cells #[.i bk.back,.i bk.coords,.i bk.y0,.i bk.y1,.i bk.x0,.i bk.x1] 350))=w3 at HBx HJ3 HK3 ⊢
   generalize wr.heap.size=Bb at HBx HBb ⊢
   gi_loopw [3,6] (fun nv yv wt=>∃(t M:Nat) (Y:Int),t<=bk.rows/\yv=.i Y/\-2<=Y/\Y<=bk.y1+1/\Hid (Y=bk.y0+(t:Int))/\nv=.i M/\M < 64/\Hid (M=N+t*bk.cols)/\Hid (J (upto M) wt)/\Hid (KeepsIn B w2 wt)/\Hid (wt.heap[Bb]?=some (.cells #[.i bk.back,.i bk.coords,.i bk.y0,.i bk.y1,.i bk.x0,.i bk.x1] 350 (0,0)))) (fun _ yv _=>(bk.y1+1-intOf yv).toNat)
   case atStart=>exact⟨0,N,bk.y0,nZl _,rfl,by omega,by omega,by unfold Hid;simp,rfl,hN64,by unfold Hid;simp,HJ3,HK3,HBx⟩
   case round =>
    obtain⟨t,M,Y,ht,rfl,hY1,hY2,HYt,rfl,hM64,HM,HJt,HKt,HBt⟩:=hrel
    obtain⟨b0,b1,b2,b3,b4,b5⟩:=aAh HBt.o
    by_cases hle:Y<=bk.y1
    ·have htr:t < bk.rows:=by
      have:=HYt.o
      unfold Blk.rows
      omega
     have HIdx:Hid (M+bk.cols < 64/\M+bk.cols=N+(t+1)*bk.cols/\∀ s,s < bk.cols->M+s < (gI f d).length/\(gI f d)[M+s]?=some ⟨bk.back,bk.coords,bk.x0+(s:Int),Y⟩):=by
      obtain⟨r1,r2,r3⟩:=HRows.o
      have h1:(t+1)*bk.cols<=bk.rows*bk.cols:=Nat.mul_le_mul_right _ htr
      have h2:=HM.o
      have h3:(t+1)*bk.cols=t*bk.cols+bk.cols:=Nat.succ_mul _ _
      refine⟨by omega,by omega,fun s hs=>⟨by omega,?_⟩⟩
      have h4:=aKl LL j t s hlt (by rw[<-HBK.o];exact htr) (by rw[<-HBK.o];exact hs)
      rw[<-HBK.o,<-HNc.o,HLL.o] at h4
      rw[HYt.o,h2,show N+t*bk.cols+s=N+(t*bk.cols+s) by omega]
      exact h4
     clear b0 b1 b2
     gi_wp2
     clear b3 b4 b5
     generalize wr=wt at HJt HKt HBt ⊢
     gi_loopw [3,7] (fun nv xv ws=>∃(s R:Nat) (X:Int),s<=bk.cols/\xv=.i X/\-16<=X/\X<=bk.x1+1/\Hid (X=bk.x0+(s:Int))/\nv=.i R/\R < 64/\Hid (R=M+s)/\Hid (J (upto R) ws)/\Hid (KeepsIn B w2 ws)/\Hid (ws.heap[Bb]?=some (.cells #[.i bk.back,.i bk.coords,.i bk.y0,.i bk.y1,.i bk.x0,.i bk.x1] 350 (0,0)))) (fun _ xv _=>(bk.x1+1-intOf xv).toNat)
     case atStart=>exact⟨0,M,bk.x0,nZl _,rfl,by omega,by omega,by unfold Hid;simp,rfl,hM64,by unfold Hid;simp,HJt,HKt,HBt⟩
     case round =>
      obtain⟨s,R,X,hs,rfl,hX1,hX2,HXs,rfl,hR64,HR,HJs,HKs,HBs⟩:=hrel
      obtain⟨b0,b1,b2,b3,b4,b5⟩:=aAh HBs.o
      by_cases hlx:X<=bk.x1
      ·have hsc:s < bk.cols:=by
        have:=HXs.o
        unfold Blk.cols
        omega
       obtain⟨i1,i2,i3⟩:=HIdx.o
       obtain⟨i4,i5⟩:=i3 s hsc
       rw[<-HXs.o,<-HR.o] at i5
       have hR1:R+1 < 64:=by have:=HR.o;omega
       have HLen:Hid (R < (gI f d).length):=by unfold Hid;have:=HR.o;omega
       have hyy:=HY.o (upto R) ⟨R,hR64⟩ wr HJs.o (by rw[aFp R (by omega)];exact HLen.o)
       rw[aQ5 hR64 i5,<-aBh R hR64] at hyy
       obtain⟨fn,tmps,assign,body,hy,hRd⟩:=hyy
       dsimp only at hy
       clear i1 i2 i3 i4 i5 b2 b3
       gi_wp2
       refine hRd.mono ?_
       rintro e W3 (⟨rfl,hJ3,hk3⟩|⟨rfl,hJx3⟩)
       ·have HJ4:=aA hJ3
        have HK4:=aA hk3
        clear hJ3 hk3 b0 b1 b4 b5
        gi_wp2
        refine⟨⟨s+1,R+1,X+1,hsc,rfl,by omega,by omega,?_,by go_num,hR1,?_,HJ4,HKs.o.trans HK4.o,HK4.o.same Bb _ HBb.o HBs.o rfl⟩,?_⟩
        ·have:=HXs.o
         unfold Hid
         omega
        ·have:=HR.o
         unfold Hid
         omega
        ·simp[intOf];omega
       ·gi_wp2
        refine bPr (results_none rfl _ _ _) rfl ?_
        exact⟨⟨_,rfl⟩,.inr ⟨_,⟨R+1,HLen.o,rfl⟩,hJx3⟩⟩
      ·have hsc:s=bk.cols:=by
        have:=HXs.o
        unfold Blk.cols at hs ⊢
        omega
       gi_wp2
       refine⟨⟨t+1,R,Y+1,htr,rfl,by omega,by omega,?_,rfl,hR64,?_,HJs,HKs,HBs⟩,?_⟩
       ·have:=HYt.o
        unfold Hid
        omega
       ·have h1:=HR.o
        have h2:=HIdx.o.2.1
        unfold Hid
        omega
       ·simp[intOf];omega
    ·have htr:t=bk.rows:=by
      have:=HYt.o
      unfold Blk.rows at ht ⊢
      omega
     gi_wp2
     refine⟨⟨j+1,M,hlt,by go_num,rfl,hM64,?_,HJt,HKt⟩,?_⟩
     ·have h1:=HM.o
      have h2:=HRows.o.2.1
      unfold Hid
      rw[htr] at h1
      omega
     ·simp[intOf];omega
  ·obtain rfl:j=LL.length:=by omega
   gi_wp2
   go_end0
   refine⟨⟨_,rfl⟩,.inl ⟨_,?_,HJr.o⟩⟩
   rw[HNc.o,aQy,gI,HLL.o]
theorem all_stops (n:Nat)(hn:1<=n)(Bk B:Nat)(f d:Int)(w:World)(hBk:Bk < w.heap.size)(hB:B<=w.heap.size)
  (hk0:w.cell? ⟨Bk,0,none⟩=some (.i f)) (hk1:w.cell? ⟨Bk,1,none⟩=some (.i d)) :
  SeqStopsK Fence.wide n Tryz.prog 309 #[.pointer (some ⟨Bk,0,none⟩)] (encs (gI f d)) (KeepsIn B) (fun xs=>xs=upto (gI f d).length)
   (fun pre=>∃ k,k<=(gI f d).length/\pre=upto k) (gI f d).length w:=fun l J Jx W hW hJ _ hY h0 =>
 aQg n hn l Bk B f d J Jx W (Nat.le_trans hB hW.size) hJ hY ((hW.cell (p:=⟨Bk,0,none⟩) hBk).trans hk0) ((hW.cell (p:=⟨Bk,1,none⟩) hBk).trans hk1) h0
theorem aQh (f d:Int)(w:World) :
  Calls Tryz.prog 260 #[.agg #[.i f,.i d]] w fun e w'=>e=.returned (.func (.func 309) #[] #[.pointer (some ⟨w.heap.size,0,none⟩)])/\w'=w.alloc (.cells #[.i f,.i d] 23):=by
 go_enter Tryz.func260,Tryz.ntmps260
 go_wp2
 go_ret
 exact⟨rfl,rfl⟩
end Go.Proofs.Knd
namespace Go.Proofs.Knd
open Go.RowKit Go.Shelf
open YticnbcfmbhjbgaaGreatDoor (aB)
attribute [local go_sem] Oper.semAt_some
theorem aEe {β:Type}(b:Nat)(t:TypeId)(f:β->Array Value):Own (fun s W=>aB W b t (f s)):=fun s X Y row hs hg hrow =>
 hs.kept hg (fun e'=>by obtain⟨o,ho,hc⟩:=hrow b e'.symm;rw[show X.heap[b]?=_ from hs] at ho;cases ho;cases hc)
def lK (p:Plc):Array Value:=#[.i p.back,.i p.coords,.i p.x,.i p.y]
theorem aCv {β:Type}{B:Nat}(b:Nat)(t:TypeId)(f:β->Array Value):OwnFrom B (fun s W=>aB W b t (f s)):=Own.from (aEe b t f) B
end Go.Proofs.Knd
namespace Go.Proofs.Knd
open Go.RowKit Go.Maps
theorem laidOut:laidOutB Tryz.prog=true:=by kernel_rfl
theorem aUv:(135:TypeId) < Tryz.prog.types.size:=of_decide_eq_true (by kernel_rfl)
theorem aXx:(match Tryz.prog.underlying 135 with|some (.array _ _)|some (.struct _)=>true|_=>false)=true:=by rw[Tryz.underlying135]
theorem aIb:Keyed Tryz.prog 135:=Keyed.of_law (deep_law_laid laidOut (m:=2) (by omega) aUv (by kernel_rfl) aXx)
theorem aJ3:Tryz.prog.keyType 135=true:=by kernel_rfl
theorem aHt:Tryz.prog.cellsOf 135=4:=by kernel_rfl
def gK (n:Int):Prop:=-9223372036854775808<=n/\n<=9223372036854775807
def Plc.wf (p:Plc):Prop:=gK p.back/\gK p.coords/\gK p.x/\gK p.y
theorem kR {n:Int}(h:gK n):(Lit.int .i64 n).wf=true:=by
 unfold gK at h;simp[Lit.wf,IntKind.min,IntKind.max,IntKind.bits,IntKind.signed];omega
theorem cells3:Tryz.prog.cellsOf 3=1:=by kernel_rfl
theorem oK (d:Nat){n:Int}(h:gK n):Tryz.prog.keyLits (d+1) 3 [.i n]=some [.i n]:=by
 unfold Program.keyLits
 rw[Tryz.underlying3]
 simp[kR h]
theorem aVx (d:Nat){p:Plc}(h:p.wf):Tryz.prog.keyLits (d+1+1) 135 (lK p).toList=some [.i p.back,.i p.coords,.i p.x,.i p.y]:=by
 obtain⟨h0,h1,h2,h3⟩:=h
 unfold Program.keyLits
 simp only[Tryz.underlying135]
 simp[lK,aHt,cells3,oK d h0,oK d h1,oK d h2,oK d h3]
noncomputable def kl (p:Plc):Lit:=(keyOf Tryz.prog 135 (.agg (lK p))).getD (.bool false)
theorem fO {p:Plc}(h:p.wf):keyOf Tryz.prog 135 (.agg (lK p))=some (kl p):=by
 have:∃ l,keyOf Tryz.prog 135 (.agg (lK p))=some l:=by
  have hf:(Value.agg (lK p)).formed Tryz.prog 135=true:=by
   simp only[Value.formed,Tryz.underlying135,aHt]
   rfl
  obtain⟨k,hk⟩:∃ k,Tryz.prog.types.size+1=k+1+1:=⟨Tryz.prog.types.size-1,by have h:(135:Nat) < Tryz.prog.types.size:=aUv;omega⟩
  have hl:=aVx k h
  rw[<-hk] at hl
  refine⟨.string (keyBytes [.i p.back,.i p.coords,.i p.x,.i p.y]),?_⟩
  unfold keyOf
  rw[Tryz.underlying135]
  simp only[aJ3,hf,Bool.and_self,if_true,Value.cells,hl,Option.map_some]
 obtain⟨l,hl⟩:=this
 unfold kl
 rw[hl];rfl
theorem aGo {p q:Plc}(hp:p.wf)(hq:q.wf)(h:kl p=kl q):p=q:=by
 have h1:=fO hp
 have h2:=fO hq
 rw[<-h] at h2
 have:=aIb.inj h1 h2
 simp[lK] at this
 cases p;cases q
 simp_all
theorem yC {p:Plc}(hp:p.wf):WideAt.IsKeyLit (kl p):=aIb.key (fO hp)
def look (L:List Plc)(pre:List (Fin 64))(p:Plc):Option Nat:=pre.foldl (fun r i=>if L.getD i.val zp=p then some i.val else r) none
theorem aAz (L:List Plc)(pre:List (Fin 64))(i:Fin 64)(p:Plc):look L (pre++[i]) p=if L.getD i.val zp=p then some i.val else look L pre p:=by simp[look]
def zT (L:List Plc)(pre:List (Fin 64))(D:DataW Unit):Prop :=
 IsMap D/\∀ p:Plc,p.wf->has D (kl p)=(look L pre p).isSome/\D.atKey (kl p) (.lit (.i 0))=.lit (.i (((look L pre p).getD 0:Nat):Int))
theorem zT.nil (L:List Plc):zT L [] (.map []):=⟨⟨_,rfl⟩,fun p _=>⟨rfl,rfl⟩⟩
theorem zT.snoc {L:List Plc}{pre:List (Fin 64)}{D:DataW Unit}(h:zT L pre D)(i:Fin 64)(hi:(L.getD i.val zp).wf):zT L (pre++[i]) (D.put (kl (L.getD i.val zp)) (.lit (.i ((i.val:Nat):Int)))):=by
 refine⟨h.1.put _ _,fun p hp=>?_⟩
 rw[aAz]
 by_cases e:L.getD i.val zp=p
 ·rw[if_pos e,e,has_put_same h.1 (yC hp),atKey_put_same h.1 (yC hp)]
  exact⟨rfl,rfl⟩
 ·rw[if_neg e]
  have hne:kl p≠kl (L.getD i.val zp):=fun h'=>e (aGo hp hi h').symm
  rw[has_put_other hne,atKey_put_other hne]
  exact h.2 p hp
theorem aSv (f d:Int):∀ p ∈ gI f d,p.wf:=by
 unfold gI
 rcases kY f d with⟨hm,rfl⟩|⟨hm,rfl⟩|hm
 ·have e:iN 0 d=uB:=by simp[iN,hm]
  rw[e];unfold Plc.wf gK;decide
 ·have e:iN 1 d=uS:=by simp[iN,hm]
  rw[e];unfold Plc.wf gK;decide
 ·have e:iN f d=[]:=by simp[iN,hm]
  rw[e];simp[jE]
theorem aRl (f d:Int)(i:Nat):((gI f d).getD i zp).wf:=by
 by_cases h:i < (gI f d).length
 ·have e:(gI f d).getD i zp=(gI f d)[i]:=by simp[List.getD,h]
  rw[e];exact aSv f d _ (List.getElem_mem h)
 ·simp[List.getD,h,zp,Plc.wf,gK]
end Go.Proofs.Knd
namespace Go.Proofs.Knd
open Go.RowKit Go.Shelf Go.Maps
open YticnbcfmbhjbgaaGreatDoor (aB)
attribute [local go_sem] Oper.semAt_some
theorem bsz {w w2:World}{o:Obj}(h:Below (w.alloc o).heap.size (w.alloc o) w2):w.heap.size < w2.heap.size:=by have:=h.size;simp at this;omega
theorem aAc (c:Int)(w:World):(Instr.makeMap 260 (some (.i c))).run Tryz.prog w=.ok (.map (some w.heap.size)) (w.alloc (.map #[] 0)):=by
 simp[Instr.makeMap,run_underlying Tryz.underlying260,go_sem]
theorem aGs (m:Nat)(hm:6<=m)(f d:Int)(w:World) :
  CallsIn Fence.wide m Tryz.prog 187 #[.agg #[.i f,.i d]] w fun e w'=>∃ b D,e=.returned (.map (some b))/\w'.ownsMap Tryz.prog 135 (plainElem (H:=Unit) Tryz.prog 3) b 64 D/\zT (gI f d) (upto (gI f d).length) D/\Below w.heap.size w w':=by
 have h1:1<=m:=by omega
 have hro:Fence.wide.round=none:=rfl
 have hmm:=aAc
 have hb:=aD w (.cells #[.i f,.i d] 23)
 refine callsIn_of_wp_marks Tryz.func187 rfl trivial ?_ hro
 simp only[Tryz.ntmps187,List.size_toArray,lLc,lLn,Nat.reduceAdd,Nat.reduceSub,Array.replicate_succ,Array.replicate_zero,List.push_toArray,List.append_toArray,List.nil_append,List.cons_append]
 gi_wp2_with (refine⟨trivial,?_⟩;first|(gi_at_call 260;refine(callsIn_wide.2 (aQh f d _)).mono ?_;rintro e w3 ⟨rfl,rfl⟩)|(gi_at_call 132;refine(callsIn_wide.2 (aAn f d _)).mono ?_;rintro e w2 ⟨rfl,hb2⟩;obtain⟨hc2,hf2⟩:=jP hb2;have hz2:=bsz hb2))
 have HB2:=aA (bel hb hb2)
 have hKd:=aB.new ((w2.alloc (.map #[] 0)).alloc (.cells #[.map (some w2.heap.size)] 260)) 23 #[.i f,.i d]
 have hLs:=(aB.new (w2.alloc (.map #[] 0)) 260 #[.map (some w2.heap.size)]).alloc (.cells #[.i f,.i d] 23)
 have hM:=((World.ownsMap_made w2 Tryz.prog 135 (plainElem (H:=Unit) Tryz.prog 3)).alloc (.cells #[.map (some w2.heap.size)] 260)).alloc (.cells #[.i f,.i d] 23)
 have hsz:(((w2.alloc (.map #[] 0)).alloc (.cells #[.map (some w2.heap.size)] 260)).alloc (.cells #[.i f,.i d] 23)).heap.size=w2.heap.size+3:=by simp
 have hB0:Below w.heap.size w (((w2.alloc (.map #[] 0)).alloc (.cells #[.map (some w2.heap.size)] 260)).alloc (.cells #[.i f,.i d] 23)) :=
  ((HB2.o.alloc HB2.o.size _).alloc (by have:=HB2.o.size;simp;omega) _).alloc (by have:=HB2.o.size;simp;omega) _
 simp only[wSa] at hKd hLs
 obtain⟨W0,hW0⟩:∃ W0,(((w2.alloc (.map #[] 0)).alloc (.cells #[.map (some w2.heap.size)] 260)).alloc (.cells #[.i f,.i d] 23))=W0:=⟨_,rfl⟩
 rw[hW0] at hKd hLs hM hsz hB0 ⊢
 clear hW0 hc2 hf2 hb2 hb HB2
 obtain⟨Z,hZ⟩:∃ Z,w2.heap.size=Z:=⟨_,rfl⟩
 rw[hZ] at hKd hLs hM hsz hz2 ⊢
 clear hZ
 obtain⟨L,hL⟩:∃ L,L=gI f d:=⟨_,rfl⟩
 have HL:=aA hL
 have hseq:=all_stops (m-1) (by omega) (Z+1+1) W0.heap.size f d W0 (by omega) (nLr _) (hKd.cell 0 rfl) (hKd.cell 1 rfl)
 rw[<-hL] at hseq
 clear hL
 refine wpIn_rangeFunc_ownH hro h1 (gf:=309) (lb:=#[.pointer (some ⟨Z+1+1,0,none⟩)]) rfl trivial (enters_of Tryz.func309 (by kernel_rfl) rfl)
  hseq (fun h k=>h.trans k) aJ2 (Below.refl _ _) (fun _=>rfl)
  (fun pre W=>(aB W (Z+1) 260 #[.map (some Z)]/\∃ D,W.ownsMap Tryz.prog 135 (plainElem (H:=Unit) Tryz.prog 3) Z pre.length D/\zT L pre D)/\Below w.heap.size w W)
  (fun _ _ _=>False)
  (OwnFrom.and (OwnFrom.and (aCv _ _ _) (fun s X Y row hs hg hr=>by
   obtain⟨D,h1,h2⟩:=hs
   exact⟨D,h1.kept hg (fun e=>by have:=(hr _ e.symm).1;omega),h2⟩)) (ownFrom_below (nLr _) (by omega)))
  (fun _ _ _ _ _ hs _ _=>hs)
  ⟨⟨hLs,_,hM,zT.nil L⟩,hB0⟩
  (fun x a' W=>∃ Bx,Z+1 < Bx/\aB W Bx 135 (lK (L.getD x.val zp))/\a'={ tmps:=#[.agg #[.i f,.i d],.pointer (some ⟨w.heap.size,0,none⟩),.map none,.pointer (some ⟨Z+1,0,none⟩),.i (x.val:Int),.pointer (some ⟨Bx,0,none⟩),.agg #[.i f,.i d],.i (dF f d),.map (some Z),.agg #[.i f,.i d],.func (.func 309) #[] #[.pointer (some ⟨Z+1+1,0,none⟩)],.i (x.val:Int),.agg (lK (L.getD x.val zp)),undef,undef,undef,undef],defers:=[] })
  (fun x a' _ X Y row hs hg hr=>by obtain⟨Bx,h1,h2,h3⟩:=hs;exact⟨Bx,h1,aEe Bx 135 (fun(_:Unit)=>lK (L.getD x.val zp)) () X Y row h2 hg (fun r e=>(hr r e).2),h3⟩)
  ?assign ?body ?done ?stop
 case assign =>
  rintro l pre x W K ⟨⟨hLs1,D,hM1,hT1⟩,hB1⟩ hK
  simp only[encs]
  gi_wp2
  exact hK _ _ ((KeepsOthers.alloc _ _).from _) (KeepsIn.of_below (aD _ _)) ⟨⟨hLs1.alloc _,D,hM1.alloc _,hT1⟩,hB1.alloc hB1.size _⟩ ⟨W.heap.size,hLs1.lt,aB.new W 135 _,rfl⟩
 case body =>
  rintro l pre x a' W hl ⟨r,hr⟩ ⟨⟨hLs1,D,hM1,hT1⟩,hB1⟩ ⟨Bx,hBx,hX,rfl⟩ hlt
  have cL:=hLs1.cell 0 rfl
  obtain⟨p,hp0⟩:∃ p,p=L.getD x.val zp:=⟨_,rfl⟩
  have hpw:p.wf:=by rw[hp0,HL.o];exact aRl f d _
  rw[<-hp0] at hX ⊢
  have HP:=aA hp0
  have HT:=aA hT1
  have HM:=aA hM1
  clear hp0 hT1 hM1
  have cx0:W.cell? ⟨Bx,0,none⟩=some (.i p.back):=hX.cell 0 rfl
  have cx1:W.cell? ⟨Bx,1,none⟩=some (.i p.coords):=hX.cell 1 rfl
  have cx2:W.cell? ⟨Bx,2,none⟩=some (.i p.x):=hX.cell 2 rfl
  have cx3:W.cell? ⟨Bx,3,none⟩=some (.i p.y):=hX.cell 3 rfl
  have hl64:pre.length < 64:=by have:=(mW f d).1;rw[<-HL.o] at this;omega
  gi_wp2_with (gi_at_mapUpdate;refine wpListIn_mapUpdate_own _ rfl _ _ _ 260 rfl 135 3 aIb Tryz.underlying260 _ Z pre.length _ rfl HM.o (by unfold maxLen;omega) _ _ _ rfl rfl (fO hpw) _ [] (plainElem_int Tryz.underlying3 (kR (n:=(x.val:Int)) (by unfold gK;omega))) ?_;intro w1 hown1 hgrow1)
  exact⟨KeepsFrom.of_grownBy hgrow1 (fun j e=>by cases e;omega),KeepsIn.of_grownBy hgrow1 (fun j e=>by cases e;exact .inl (by omega)),
   ⟨hLs1.kept hgrow1 (by simp),_,by rw[lLa];exact hown1,by have h:=HT.o.snoc x (by rw[<-HP.o];exact hpw);rw[<-HP.o] at h;exact h⟩,hB1.grown hgrow1 hB1.size (fun k e=>by cases e;omega)⟩
 case done =>
  rintro D0 ys W hD rfl ⟨⟨hLs1,D,hM1,hT1⟩,hB1⟩ hK
  have cL:=hLs1.cell 0 rfl
  have hle:=(mW f d).1
  rw[<-HL.o] at hle
  rw[aFp _ (by omega)] at hM1
  gi_wp2
  refine⟨by simp,.inl ⟨_,_,rfl,run_takeDeferred hK,?_⟩⟩
  refine⟨_,results_tmp rfl _ _ _,Z,D,rfl,(hM1.mono (by omega)).kept (grownBy_putObj' _ D0 _) (fun e=>by cases e;omega),by rw[<-HL.o];exact hT1,hB1.trans (belowK_b (w:=w) (nLr _) W D0 _ _ (by omega) hK rfl rfl)⟩
 case stop =>
  rintro D c pre W _ _ h _
  exact h.elim
theorem aEs (f d:Int)(w:World) :
  Calls Tryz.prog 187 #[.agg #[.i f,.i d]] w fun e w'=>∃ b D,e=.returned (.map (some b))/\w'.ownsMap Tryz.prog 135 (plainElem (H:=Unit) Tryz.prog 3) b 64 D/\zT (gI f d) (upto (gI f d).length) D/\Below w.heap.size w w' :=
 callsIn_wide.1 (aGs 6 (nLr _) f d w)
def rF (f d:Int)(p:Plc):Option Nat:=look (gI f d) (upto (gI f d).length) p
def aSh (f d:Int)(p:Plc):Value:=.tuple #[.i (((rF f d p).getD 0:Nat):Int),.bool (rF f d p).isSome]
theorem aV1 {f d:Int}{p:Plc}(hp:p.wf){w2:World}{b:Nat}{D:DataW Unit}(hM:w2.ownsMap Tryz.prog 135 (plainElem (H:=Unit) Tryz.prog 3) b 64 D)(hT:zT (gI f d) (upto (gI f d).length) D) :
  ∃ c q,(Instr.lookup 260 (.map (some b)) (.agg #[.i p.back,.i p.coords,.i p.x,.i p.y]) true).run Tryz.prog w2=.ok (.tuple #[.i c,.bool q]) w2/\Hid (.tuple #[.i c,.bool q]=aSh f d p):=by
 obtain⟨v,ps,hrun,hv⟩:=hM.look_ok aIb Tryz.underlying260 (Tryz.zeroValue3 w2) (plainElem_int Tryz.underlying3 (kR (n:=0) (by unfold gK;omega))) (fO hp)
 obtain⟨c,rfl,hc,hwc⟩:=plainElem_int_inv Tryz.underlying3 hv
 obtain⟨t1,t2⟩:=hT.2 p hp
 have hc1:D.atKey (kl p) (.lit (.i 0))=.lit (.i c):=congrArg Prod.fst hc
 rw[t2] at hc1
 simp at hc1
 refine⟨_,_,hrun,?_⟩
 unfold Hid
 rw[t1,<-hc1]
 rfl
theorem kL (f d:Int)(p:Plc)(hp:p.wf)(w:World) :
  Calls Tryz.prog 111 #[.agg #[.i f,.i d],.agg #[.i p.back,.i p.coords,.i p.x,.i p.y]] w fun e w'=>e=.returned (aSh f d p)/\Below w.heap.size w w':=by
 have hb:=(aD w (.cells #[.i f,.i d] 23)).alloc (by simp) (.cells #[.i p.back,.i p.coords,.i p.x,.i p.y] 135)
 go_enter Tryz.func111,Tryz.ntmps111
 go_wp2
 go_region_with (go_at_call 187;refine(aEs _ _ _).mono ?_;rintro e w2 ⟨b,D,rfl,hM,hT,hb2⟩;obtain⟨hc2,hf2⟩:=jP hb2;obtain⟨c,q,hrun,hv⟩:=aV1 hp hM hT)
 all_goals go_simp
 all_goals go_wp2
 all_goals go_ret2
 all_goals exact⟨by rw[<-hv.o];rfl,bel hb.drew hb2⟩
end Go.Proofs.Knd
