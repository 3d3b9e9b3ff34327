import Derived.RangeFuncNested
import Derived.RangeFuncBound
import Derived.Shelf.RegionOpen
import Derived.LoopNIn
import Derived.LoopIn
import Derived.Maps.OwnIn
import Derived.Lib.ItoaNum
import Derived.Test.YticnbcfmbhjbgaaGreatDoorX10
set_option maxRecDepth 100000
set_option maxHeartbeats 32000000
set_option linter.unusedVariables false
namespace Go.Proofs.Knd
section
open Go.RowKit
structure Plc where
 back:Int
 coords:Int
 x:Int
 y:Int
 deriving DecidableEq
def Blk.rows (b:Blk):Nat:=(b.y1+1-b.y0).toNat
def Blk.cols (b:Blk):Nat:=(b.x1+1-b.x0).toNat
def Blk.pls (b:Blk):List Plc:=(List.range b.rows).flatMap fun(t:Nat)=>(List.range b.cols).map fun(s:Nat)=>(⟨b.back,b.coords,b.x0+(s:Int),b.y0+(t:Int)⟩:Plc)
def jR (l:List Blk):List Plc:=l.flatMap Blk.pls
def cnt (l:List Blk)(j:Nat):Nat:=(jR (l.take j)).length
def gX (f d:Int):List Plc:=jR (iX f d)
theorem qJ (n m:Nat)(g:Nat->List Plc)(h:∀ t,(g t).length=m):((List.range n).flatMap g).length=n*m:=by
 induction n with
 | zero=>simp
 | succ n ih=>rw[List.range_succ,List.flatMap_append,lLa,ih];simp[h,Nat.succ_mul]
theorem aAs (n m:Nat)(g:Nat->List Plc)(h:∀ t,(g t).length=m)(t s:Nat)(ht:t < n)(hs:s < m):((List.range n).flatMap g)[t*m+s]?=(g t)[s]?:=by
 induction n with
 | zero=>omega
 | succ n ih =>
  rw[List.range_succ,List.flatMap_append]
  have hl:=qJ n m g h
  by_cases e:t < n
  ·have:t*m+s < n*m:=by
    have:(t+1)*m<=n*m:=Nat.mul_le_mul_right m e
    rw[Nat.succ_mul] at this;omega
   rw[gAl (by omega)]
   exact ih e
  ·obtain rfl:t=n:=by omega
   rw[gAr (by omega),hl]
   simp[Nat.add_sub_cancel_left]
theorem Blk.pls_len (b:Blk):b.pls.length=b.rows*b.cols:=qJ _ _ _ (by simp)
theorem Blk.pls_at (b:Blk)(t s:Nat)(ht:t < b.rows)(hs:s < b.cols):b.pls[t*b.cols+s]?=some ⟨b.back,b.coords,b.x0+(s:Int),b.y0+(t:Int)⟩:=by
 rw[Blk.pls,aAs _ _ _ (by simp) t s ht hs]
 simp[hs]
theorem nD (l:List Blk)(j:Nat)(h:j < l.length):cnt l (j+1)=cnt l j+l[j].rows*l[j].cols:=by
 unfold cnt jR
 rw[lTs h,List.flatMap_append,lLa]
 simp[Blk.pls_len]
theorem aSj (l:List Blk):cnt l l.length=(jR l).length:=by unfold cnt;rw[lTg]
theorem cnt_mono (l:List Blk)(j:Nat)(h:j<=l.length):cnt l j<=(jR l).length:=by
 unfold cnt jR
 conv=>rhs;rw[<-lTd j l]
 rw[List.flatMap_append,lLa];omega
theorem aLj (l:List Blk)(j t s:Nat)(h:j < l.length)(ht:t < l[j].rows)(hs:s < l[j].cols) :
  (jR l)[cnt l j+(t*l[j].cols+s)]?=some ⟨l[j].back,l[j].coords,l[j].x0+(s:Int),l[j].y0+(t:Int)⟩:=by
 have e0:l=l.take j++(l[j]::l.drop (j+1)):=by rw[<-List.drop_eq_getElem_cons h,lTd]
 have e:jR l=jR (l.take j)++(l[j].pls++jR (l.drop (j+1))):=(congrArg jR e0).trans (by simp only[jR,List.flatMap_append,List.flatMap_cons])
 have hlt:t*l[j].cols+s < l[j].pls.length:=by
  rw[Blk.pls_len]
  have:(t+1)*l[j].cols<=l[j].rows*l[j].cols:=Nat.mul_le_mul_right _ ht
  rw[Nat.succ_mul] at this;omega
 rw[e,gAr (by unfold cnt;omega)]
 unfold cnt
 rw[Nat.add_sub_cancel_left,gAl hlt]
 exact Blk.pls_at _ t s ht hs
theorem aKc (l:List Blk)(j i:Nat)(h:j < l.length)(hi:i < 6):(gD l)[j*6+i]?=l[j].cells[i]?:=by
 induction l generalizing j with
 | nil=>simp at h
 | cons b l ih =>
  have hb:b.cells.length=6:=rfl
  have e:gD (b::l)=b.cells++gD l:=by simp[gD]
  cases j with
  | zero=>rw[e,gAl (by omega)];simp
  | succ j =>
   rw[e,gAr (by omega),hb,show (j+1)*6+i-6=j*6+i by omega]
   exact ih j (by simpa using h)
def upto (k:Nat):List (Fin 64):=(List.finRange 64).take k
theorem aGf (k:Nat)(h:k<=64):(upto k).length=k:=by simp[upto];omega
theorem aBy (k:Nat)(h:k < 64):upto (k+1)=upto k++[⟨k,h⟩]:=by
 unfold upto
 rw[lTs (by simpa using h)]
 simp
theorem kY (f d:Int):(gX f d).length < 64/\(iX f d).length<=5/\∀ b ∈ iX f d,0<=b.back/\b.back<=3/\-16<=b.x0/\b.x0<=b.x1/\b.x1<=3/\-2<=b.y0/\b.y0<=b.y1/\b.y1<=1:=by
 unfold gX
 rcases lI f d with⟨hm,rfl⟩|⟨hm,rfl⟩|hm
 ·have e:iX 0 d=vD:=by simp[iX,hm]
  rw[e];decide
 ·have e:iX 1 d=vT:=by simp[iX,hm]
  rw[e];decide
 ·have e:iX f d=[]:=by simp[iX,hm]
  rw[e];decide
theorem aFq (f d:Int):((gX f d).length:Int)=bX f d:=by
 unfold gX
 rcases lI f d with⟨hm,rfl⟩|⟨hm,rfl⟩|hm
 ·have e:iX 0 d=vD:=by simp[iX,hm]
  rw[e,(zs0 hm).2.2.2];decide
 ·have e:iX 1 d=vT:=by simp[iX,hm]
  rw[e,(zs1 hm).2.2.2];decide
 ·have e:iX f d=[]:=by simp[iX,hm]
  rw[e,(zs2 hm).2.2.2];decide
end
section
open Go.RowKit Go.Shelf
variable {B:Nat} {W W':World}
attribute [local go_sem] Oper.semAt_some
structure KeepsIn (B:Nat)(W W':World):Prop where
 size:W.heap.size<=W'.heap.size
 same:∀(k:Nat) (o:Obj),B<=k->W.heap[k]?=some o->o.isCells=true->W'.heap[k]?=some o
theorem KeepsIn.refl (B:Nat)(W:World):KeepsIn B W W:=⟨nLr _,fun _ _ _ h _=>h⟩
theorem KeepsIn.trans {X Y Z:World}(h:KeepsIn B X Y)(k:KeepsIn B Y Z):KeepsIn B X Z :=
 ⟨Nat.le_trans h.size k.size,fun i o hB hi ho=>k.same i o hB (h.same i o hB hi ho) ho⟩
theorem KeepsIn.of_grownBy {row:Option Nat}(hg:W.grownBy W' row)(hrow:∀ j,row=some j->j < B\/∃ o,W.heap[j]?=some o/\o.isCells=false):KeepsIn B W W' :=
 ⟨hg.size,fun k o hB hk ho=>(hg.block k (aGs.1 hk).1 (fun e=>by
  rcases hrow k e.symm with h|⟨o',h1,h2⟩
  ·omega
  ·rw[hk] at h1;cases h1;rw[ho] at h2;cases h2)).trans hk⟩
theorem KeepsIn.of_below (h:Below W.heap.size W W'):KeepsIn B W W' :=
 ⟨h.size,fun k o _ hk _=>(h.block k (aGs.1 hk).1).trans hk⟩
theorem aKy {w:World}(W:World)(l:Nat)(o o':Obj)(_:w.heap.size<=l)(h:W.heap[l]?=some o)(hc:o.isCells=false)(_:o.isWalk=false):KeepsIn B W (W.putObj l o') :=
 KeepsIn.of_grownBy (grownBy_putObj' W l o') (fun j e=>by cases e;exact .inr ⟨o,h,hc⟩)
theorem pE (h:Below W.heap.size W W'):W.grownBy W' none:=⟨h.os,h.tape,h.output,h.size,fun k hk _=>h.block k hk⟩
def zp:Plc:=⟨0,0,0,0⟩
def encs (L:List Plc)(i:Fin 64):Array Value :=
 #[.i (i.val:Int),.agg #[.i (L.getD i.val zp).back,.i (L.getD i.val zp).coords,.i (L.getD i.val zp).x,.i (L.getD i.val zp).y]]
theorem aSq {L:List Plc}{N:Nat}(h:N < 64){p:Plc}(hp:L[N]?=some p):encs L ⟨N,h⟩=#[.i (N:Int),.agg #[.i p.back,.i p.coords,.i p.x,.i p.y]]:=by
 simp[encs,List.getD,hp]
theorem bBr {w2:World}{base:Nat}{v:Value}{l:List Blk}(h:w2.ownsRow base 350 6 v l.length (gD l)) :
  ∃ a cap,v=.slice a l.length cap/\(l=[]\/∃ g cur,a=some ⟨g,0,none⟩/\base<=g/\w2.heap[g]?=some (.cells cur 350 (0,0))/\∀ i,i < l.length*6->cur[i]?=(gD l)[i]?):=by
 rcases h.2 with⟨rfl,hl⟩|⟨g,cap,cur,rfl,hb,hg,_,_,hsz,htk⟩
 ·exact⟨none,0,by rw[hl],.inl (List.eq_nil_of_length_eq_zero hl)⟩
 ·refine⟨_,_,rfl,.inr ⟨g,cur,rfl,hb,hg,fun i hi=>?_⟩⟩
  rw[<-htk,List.getElem?_take,if_pos hi,Array.getElem?_toList]
theorem aHu {wr:World}{g:Nat}{cur:Array Value}{l:List Blk}(hg:wr.heap[g]?=some (.cells cur 350 (0,0)))(hc:∀ i,i < l.length*6->cur[i]?=(gD l)[i]?)(j:Nat)(hj:j < l.length) :
  wr.cell? ⟨g,j*6,none⟩=some (.i l[j].back)/\wr.cell? ⟨g,j*6+1,none⟩=some (.i l[j].coords)/\wr.cell? ⟨g,j*6+2,none⟩=some (.i l[j].y0)/\wr.cell? ⟨g,j*6+3,none⟩=some (.i l[j].y1)/\wr.cell? ⟨g,j*6+4,none⟩=some (.i l[j].x0)/\wr.cell? ⟨g,j*6+5,none⟩=some (.i l[j].x1):=by
 have h:=fun i (hi:i < 6)=>(cell_of_row wr g (j*6+i) cur 350 (0,0) hg).trans ((hc _ (by omega)).trans (aKc l j i hj hi))
 exact⟨h 0 (by decide),h 1 (by decide),h 2 (by decide),h 3 (by decide),h 4 (by decide),h 5 (by decide)⟩
theorem aAz {wr:World}{g:Nat}{b:Blk}(hg:wr.heap[g]?=some (.cells #[.i b.back,.i b.coords,.i b.y0,.i b.y1,.i b.x0,.i b.x1] 350 (0,0))) :
  wr.cell? ⟨g,0,none⟩=some (.i b.back)/\wr.cell? ⟨g,1,none⟩=some (.i b.coords)/\wr.cell? ⟨g,2,none⟩=some (.i b.y0)/\wr.cell? ⟨g,3,none⟩=some (.i b.y1)/\wr.cell? ⟨g,4,none⟩=some (.i b.x0)/\wr.cell? ⟨g,5,none⟩=some (.i b.x1):=by
 have h:=fun i=>cell_of_row wr g i _ 350 (0,0) hg
 exact⟨h 0,h 1,h 2,h 3,h 4,h 5⟩
theorem aR2 (n:Nat)(hn:1<=n)(l Bk B:Nat)(f d:Int)(J Jx:List (Fin 64)->World->Prop)(W:World)(hB:B<=W.heap.size)
  (hJ:AbidesFrom W.heap.size J)
  (hY:∀ pre x W1,J pre W1->pre.length < (gX f d).length->YieldAt Fence.wide (n-1) Tryz.prog l (encs (gX f d) x) W1 fun e W' =>
   (e=.returned (.bool true)/\J (pre++[x]) W'/\KeepsIn B W1 W')\/(e=.returned (.bool false)/\Jx (pre++[x]) W'))
  (hk0:W.cell? ⟨Bk,0,none⟩=some (.i f)) (hk1:W.cell? ⟨Bk,1,none⟩=some (.i d)) (h0:J [] W) :
  CallsIn Fence.wide n Tryz.prog 309 #[.func (.yield l) #[] #[],.pointer (some ⟨Bk,0,none⟩)] W fun e W'=>(∃ v,e=.returned v) /\
   ((∃ xs,xs=upto (gX f d).length/\J xs W')\/(∃ pre,(∃ k,k<=(gX f d).length/\pre=upto k)/\Jx pre W')):=by
 have hro:Fence.wide.round=none:=rfl
 refine callsIn_of_wp Tryz.func309 rfl trivial ?_ hro
 simp only[Tryz.ntmps309,List.size_toArray,lLc,lLn,Nat.reduceAdd,Nat.reduceSub,Array.replicate_succ,Array.replicate_zero,List.push_toArray,List.append_toArray,List.nil_append,List.cons_append]
 gi_wp2_with (refine⟨trivial,?_⟩;gi_at_call 310;refine(callsIn_wide.2 (aGu f d _)).mono ?_;rintro e w2 ⟨v,rfl,hown,hb2⟩;obtain⟨va,vc,rfl,hrect⟩:=bBr hown;have HRect:=aA hrect;have HB2:=aA hb2;clear hown hb2 hrect;obtain⟨LL,hLL⟩:∃ LL,LL=iX f d:=⟨_,rfl⟩;rw[<-hLL] at HRect ⊢;have HLL:=aA hLL;clear hLL)
 have HJ2:Hid (J (upto 0) w2):=hJ _ _ _ none h0 (pE HB2.o) (fun r e=>by cases e)
 obtain⟨hlen,h5,hbd⟩:=kY f d
 rw[<-HLL.o] at h5 hbd
 have HN:=aA hlen
 have HBd:=aA hbd
 have HY:=aA hY
 clear hlen hbd hY
 gi_loopw [3,11] (fun nv iv wr=>∃ j N:Nat,j<=LL.length/\iv=.i j/\nv=.i N/\N < 64/\Hid (N=cnt LL j)/\Hid (J (upto N) wr)/\Hid (KeepsIn B w2 wr)) (fun _ iv _=>LL.length-(intOf iv).toNat)
 case atStart=>exact⟨0,0,nZl _,rfl,rfl,by decide,rfl,HJ2,KeepsIn.refl _ _⟩
 case round =>
  obtain⟨j,N,hj,rfl,rfl,hN64,HNc,HJr,HKr⟩:=hrel
  by_cases hlt:j < LL.length
  ·rcases HRect.o with hnil|⟨g,cur,rfl,hgb,hgc,hcs⟩
   ·rw[hnil] at hlt;simp at hlt
   have HG:Hid (wr.heap[g]?=some (.cells cur 350 (0,0))):=HKr.o.same g _ (by omega) hgc rfl
   obtain⟨c0,c1,c2,c3,c4,c5⟩:=aHu HG.o hcs j hlt
   have HCS:=aA hcs
   have HGC:=aA hgc
   clear hcs hgc HRect
   obtain⟨bk,hbk⟩:∃ bk,bk=LL[j]:=⟨_,rfl⟩
   rw[<-hbk] at c0 c1 c2 c3 c4 c5
   have HBK:=aA hbk
   obtain⟨q1,q2,q3,q4,q5,q6,q7,q8⟩:=HBd.o bk (by rw[hbk];exact List.getElem_mem hlt)
   clear hbk
   have hbx:(wr.alloc (.cells #[.i bk.back,.i bk.coords,.i bk.y0,.i bk.y1,.i bk.x0,.i bk.x1] 350)).heap[wr.heap.size]?=some (.cells #[.i bk.back,.i bk.coords,.i bk.y0,.i bk.y1,.i bk.x0,.i bk.x1] 350 (0,0)):=heap_alloc_new wr _
   have HBx:=aA hbx
   have HJ3:Hid (J (upto N) (wr.alloc (.cells #[.i bk.back,.i bk.coords,.i bk.y0,.i bk.y1,.i bk.x0,.i bk.x1] 350))):=hJ _ _ _ none HJr.o (World.grownBy_alloc _ _ none) (fun r e=>by cases e)
   have HK3:Hid (KeepsIn B w2 (wr.alloc (.cells #[.i bk.back,.i bk.coords,.i bk.y0,.i bk.y1,.i bk.x0,.i bk.x1] 350))):=HKr.o.trans (KeepsIn.of_below (aD _ _))
   have HBb:Hid (B<=wr.heap.size):=Nat.le_trans hB (Nat.le_trans HB2.o.size HKr.o.size)
   have HRows:Hid (N+bk.rows*bk.cols < 64/\N+bk.rows*bk.cols=cnt LL (j+1)/\cnt LL (j+1)<=(gX f d).length):=by
    have h1:=nD LL j hlt
    have h2:=cnt_mono LL (j+1) hlt
    have h3:=HN.o
    have h4:=HNc.o
    unfold gX at h3 ⊢
    rw[<-HLL.o] at h3 ⊢
    rw[HBK.o]
    exact⟨by omega,by omega,h2⟩
   clear hbx
   gi_wp2
   clear c0 c1 c2 c3 c4 c5 HG HJr HKr HJ2
   generalize (wr.alloc (.cells #[.i bk.back,.i bk.coords,.i bk.y0,.i bk.y1,.i bk.x0,.i bk.x1] 350))=w3 at HBx HJ3 HK3 ⊢
   generalize wr.heap.size=Bb at HBx HBb ⊢
   gi_loopw [3,6] (fun nv yv wt=>∃(t M:Nat) (Y:Int),t<=bk.rows/\yv=.i Y/\-2<=Y/\Y<=bk.y1+1/\Hid (Y=bk.y0+(t:Int))/\nv=.i M/\M < 64/\Hid (M=N+t*bk.cols)/\Hid (J (upto M) wt)/\Hid (KeepsIn B w2 wt)/\Hid (wt.heap[Bb]?=some (.cells #[.i bk.back,.i bk.coords,.i bk.y0,.i bk.y1,.i bk.x0,.i bk.x1] 350 (0,0)))) (fun _ yv _=>(bk.y1+1-intOf yv).toNat)
   case atStart=>exact⟨0,N,bk.y0,nZl _,rfl,by omega,by omega,by unfold Hid;simp,rfl,hN64,by unfold Hid;simp,HJ3,HK3,HBx⟩
   case round =>
    obtain⟨t,M,Y,ht,rfl,hY1,hY2,HYt,rfl,hM64,HM,HJt,HKt,HBt⟩:=hrel
    obtain⟨b0,b1,b2,b3,b4,b5⟩:=aAz HBt.o
    by_cases hle:Y<=bk.y1
    ·have htr:t < bk.rows:=by
      have:=HYt.o
      unfold Blk.rows
      omega
     have HIdx:Hid (M+bk.cols < 64/\M+bk.cols=N+(t+1)*bk.cols/\∀ s,s < bk.cols->M+s < (gX f d).length/\(gX f d)[M+s]?=some ⟨bk.back,bk.coords,bk.x0+(s:Int),Y⟩):=by
      obtain⟨r1,r2,r3⟩:=HRows.o
      have h1:(t+1)*bk.cols<=bk.rows*bk.cols:=Nat.mul_le_mul_right _ htr
      have h2:=HM.o
      have h3:(t+1)*bk.cols=t*bk.cols+bk.cols:=Nat.succ_mul _ _
      refine⟨by omega,by omega,fun s hs=>⟨by omega,?_⟩⟩
      have h4:=aLj LL j t s hlt (by rw[<-HBK.o];exact htr) (by rw[<-HBK.o];exact hs)
      rw[<-HBK.o,<-HNc.o,HLL.o] at h4
      rw[HYt.o,h2,show N+t*bk.cols+s=N+(t*bk.cols+s) by omega]
      exact h4
     clear b0 b1 b2
     gi_wp2
     clear b3 b4 b5
     generalize wr=wt at HJt HKt HBt ⊢
     gi_loopw [3,7] (fun nv xv ws=>∃(s R:Nat) (X:Int),s<=bk.cols/\xv=.i X/\-16<=X/\X<=bk.x1+1/\Hid (X=bk.x0+(s:Int))/\nv=.i R/\R < 64/\Hid (R=M+s)/\Hid (J (upto R) ws)/\Hid (KeepsIn B w2 ws)/\Hid (ws.heap[Bb]?=some (.cells #[.i bk.back,.i bk.coords,.i bk.y0,.i bk.y1,.i bk.x0,.i bk.x1] 350 (0,0)))) (fun _ xv _=>(bk.x1+1-intOf xv).toNat)
     case atStart=>exact⟨0,M,bk.x0,nZl _,rfl,by omega,by omega,by unfold Hid;simp,rfl,hM64,by unfold Hid;simp,HJt,HKt,HBt⟩
     case round =>
      obtain⟨s,R,X,hs,rfl,hX1,hX2,HXs,rfl,hR64,HR,HJs,HKs,HBs⟩:=hrel
      obtain⟨b0,b1,b2,b3,b4,b5⟩:=aAz HBs.o
      by_cases hlx:X<=bk.x1
      ·have hsc:s < bk.cols:=by
        have:=HXs.o
        unfold Blk.cols
        omega
       obtain⟨i1,i2,i3⟩:=HIdx.o
       obtain⟨i4,i5⟩:=i3 s hsc
       rw[<-HXs.o,<-HR.o] at i5
       have hR1:R+1 < 64:=by have:=HR.o;omega
       have HLen:Hid (R < (gX f d).length):=by unfold Hid;have:=HR.o;omega
       have hyy:=HY.o (upto R) ⟨R,hR64⟩ wr HJs.o (by rw[aGf R (by omega)];exact HLen.o)
       rw[aSq hR64 i5,<-aBy R hR64] at hyy
       obtain⟨fn,tmps,assign,body,hy,hRd⟩:=hyy
       dsimp only at hy
       clear i1 i2 i3 i4 i5 b2 b3
       gi_wp2
       refine hRd.mono ?_
       rintro e W3 (⟨rfl,hJ3,hk3⟩|⟨rfl,hJx3⟩)
       ·have HJ4:=aA hJ3
        have HK4:=aA hk3
        clear hJ3 hk3 b0 b1 b4 b5
        gi_wp2
        refine⟨⟨s+1,R+1,X+1,hsc,rfl,by omega,by omega,?_,by go_num,hR1,?_,HJ4,HKs.o.trans HK4.o,HK4.o.same Bb _ HBb.o HBs.o rfl⟩,?_⟩
        ·have:=HXs.o
         unfold Hid
         omega
        ·have:=HR.o
         unfold Hid
         omega
        ·simp[intOf];omega
       ·gi_wp2
        refine bPr (results_none rfl _ _ _) rfl ?_
        exact⟨⟨_,rfl⟩,.inr ⟨_,⟨R+1,HLen.o,rfl⟩,hJx3⟩⟩
      ·have hsc:s=bk.cols:=by
        have:=HXs.o
        unfold Blk.cols at hs ⊢
        omega
       gi_wp2
       refine⟨⟨t+1,R,Y+1,htr,rfl,by omega,by omega,?_,rfl,hR64,?_,HJs,HKs,HBs⟩,?_⟩
       ·have:=HYt.o
        unfold Hid
        omega
       ·have h1:=HR.o
        have h2:=HIdx.o.2.1
        unfold Hid
        omega
       ·simp[intOf];omega
    ·have htr:t=bk.rows:=by
      have:=HYt.o
      unfold Blk.rows at ht ⊢
      omega
     gi_wp2
     refine⟨⟨j+1,M,hlt,by go_num,rfl,hM64,?_,HJt,HKt⟩,?_⟩
     ·have h1:=HM.o
      have h2:=HRows.o.2.1
      unfold Hid
      rw[htr] at h1
      omega
     ·simp[intOf];omega
  ·obtain rfl:j=LL.length:=by omega
   gi_wp2
   go_end0
   refine⟨⟨_,rfl⟩,.inl ⟨_,?_,HJr.o⟩⟩
   rw[HNc.o,aSj,gX,HLL.o]
theorem all_stops (n:Nat)(hn:1<=n)(Bk B:Nat)(f d:Int)(w:World)(hBk:Bk < w.heap.size)(hB:B<=w.heap.size)
  (hk0:w.cell? ⟨Bk,0,none⟩=some (.i f)) (hk1:w.cell? ⟨Bk,1,none⟩=some (.i d)) :
  SeqStopsK Fence.wide n Tryz.prog 309 #[.pointer (some ⟨Bk,0,none⟩)] (encs (gX f d)) (KeepsIn B) (fun xs=>xs=upto (gX f d).length)
   (fun pre=>∃ k,k<=(gX f d).length/\pre=upto k) (gX f d).length w:=fun l J Jx W hW hJ _ hY h0 =>
 aR2 n hn l Bk B f d J Jx W (Nat.le_trans hB hW.size) hJ hY ((hW.cell (p:=⟨Bk,0,none⟩) hBk).trans hk0) ((hW.cell (p:=⟨Bk,1,none⟩) hBk).trans hk1) h0
theorem aR3 (f d:Int)(w:World) :
  Calls Tryz.prog 260 #[.agg #[.i f,.i d]] w fun e w'=>e=.returned (.func (.func 309) #[] #[.pointer (some ⟨w.heap.size,0,none⟩)])/\w'=w.alloc (.cells #[.i f,.i d] 23):=by
 go_enter Tryz.func260,Tryz.ntmps260
 go_wp2
 go_ret
 exact⟨rfl,rfl⟩
end
section
open Go.RowKit Go.Shelf
open YticnbcfmbhjbgaaGreatDoor (aB)
attribute [local go_sem] Oper.semAt_some
theorem aE2 {β:Type}(b:Nat)(t:TypeId)(f:β->Array Value):Own (fun s W=>aB W b t (f s)):=fun s X Y row hs hg hrow =>
 hs.kept hg (fun e'=>by obtain⟨o,ho,hc⟩:=hrow b e'.symm;rw[show X.heap[b]?=_ from hs] at ho;cases ho;cases hc)
def mR (p:Plc):Array Value:=#[.i p.back,.i p.coords,.i p.x,.i p.y]
theorem aDe {β:Type}{B:Nat}(b:Nat)(t:TypeId)(f:β->Array Value):OwnFrom B (fun s W=>aB W b t (f s)):=Own.from (aE2 b t f) B
end
section
open Go.RowKit Go.Maps
theorem laidOut:laidOutB Tryz.prog=true:=by kernel_rfl
theorem aWk:(135:TypeId) < Tryz.prog.types.size:=of_decide_eq_true (by kernel_rfl)
theorem aZz:(match Tryz.prog.underlying 135 with|some (.array _ _)|some (.struct _)=>true|_=>false)=true:=by rw[Tryz.underlying135]
theorem aI7:Keyed Tryz.prog 135:=Keyed.of_law (deep_law_laid laidOut (m:=2) (by omega) aWk (by kernel_rfl) aZz)
theorem aKz:Tryz.prog.keyType 135=true:=by kernel_rfl
theorem aIp:Tryz.prog.cellsOf 135=4:=by kernel_rfl
def gY (n:Int):Prop:=-9223372036854775808<=n/\n<=9223372036854775807
def Plc.wf (p:Plc):Prop:=gY p.back/\gY p.coords/\gY p.x/\gY p.y
theorem lV {n:Int}(h:gY n):(Lit.int .i64 n).wf=true:=by
 unfold gY at h;simp[Lit.wf,IntKind.min,IntKind.max,IntKind.bits,IntKind.signed];omega
theorem cells3:Tryz.prog.cellsOf 3=1:=by kernel_rfl
theorem qA (d:Nat){n:Int}(h:gY n):Tryz.prog.keyLits (d+1) 3 [.i n]=some [.i n]:=by
 unfold Program.keyLits
 rw[Tryz.underlying3]
 simp[lV h]
theorem aXj (d:Nat){p:Plc}(h:p.wf):Tryz.prog.keyLits (d+1+1) 135 (mR p).toList=some [.i p.back,.i p.coords,.i p.x,.i p.y]:=by
 obtain⟨h0,h1,h2,h3⟩:=h
 unfold Program.keyLits
 simp only[Tryz.underlying135]
 simp[mR,aIp,cells3,qA d h0,qA d h1,qA d h2,qA d h3]
noncomputable def kl (p:Plc):Lit:=(keyOf Tryz.prog 135 (.agg (mR p))).getD (.bool false)
theorem gH {p:Plc}(h:p.wf):keyOf Tryz.prog 135 (.agg (mR p))=some (kl p):=by
 have:∃ l,keyOf Tryz.prog 135 (.agg (mR p))=some l:=by
  have hf:(Value.agg (mR p)).formed Tryz.prog 135=true:=by
   simp only[Value.formed,Tryz.underlying135,aIp]
   rfl
  obtain⟨k,hk⟩:∃ k,Tryz.prog.types.size+1=k+1+1:=⟨Tryz.prog.types.size-1,by have h:(135:Nat) < Tryz.prog.types.size:=aWk;omega⟩
  have hl:=aXj k h
  rw[<-hk] at hl
  refine⟨.string (keyBytes [.i p.back,.i p.coords,.i p.x,.i p.y]),?_⟩
  unfold keyOf
  rw[Tryz.underlying135]
  simp only[aKz,hf,Bool.and_self,if_true,Value.cells,hl,Option.map_some]
 obtain⟨l,hl⟩:=this
 unfold kl
 rw[hl];rfl
theorem aHi {p q:Plc}(hp:p.wf)(hq:q.wf)(h:kl p=kl q):p=q:=by
 have h1:=gH hp
 have h2:=gH hq
 rw[<-h] at h2
 have:=aI7.inj h1 h2
 simp[mR] at this
 cases p;cases q
 simp_all
theorem zG {p:Plc}(hp:p.wf):WideAt.IsKeyLit (kl p):=aI7.key (gH hp)
def look (L:List Plc)(pre:List (Fin 64))(p:Plc):Option Nat:=pre.foldl (fun r i=>if L.getD i.val zp=p then some i.val else r) none
theorem aBg (L:List Plc)(pre:List (Fin 64))(i:Fin 64)(p:Plc):look L (pre++[i]) p=if L.getD i.val zp=p then some i.val else look L pre p:=by simp[look]
def Tab (L:List Plc)(pre:List (Fin 64))(D:DataW Unit):Prop :=
 IsMap D/\∀ p:Plc,p.wf->has D (kl p)=(look L pre p).isSome/\D.atKey (kl p) (.lit (.i 0))=.lit (.i (((look L pre p).getD 0:Nat):Int))
theorem Tab.nil (L:List Plc):Tab L [] (.map []):=⟨⟨_,rfl⟩,fun p _=>⟨rfl,rfl⟩⟩
theorem Tab.snoc {L:List Plc}{pre:List (Fin 64)}{D:DataW Unit}(h:Tab L pre D)(i:Fin 64)(hi:(L.getD i.val zp).wf):Tab L (pre++[i]) (D.put (kl (L.getD i.val zp)) (.lit (.i ((i.val:Nat):Int)))):=by
 refine⟨h.1.put _ _,fun p hp=>?_⟩
 rw[aBg]
 by_cases e:L.getD i.val zp=p
 ·rw[if_pos e,e,has_put_same h.1 (zG hp),atKey_put_same h.1 (zG hp)]
  exact⟨rfl,rfl⟩
 ·rw[if_neg e]
  have hne:kl p≠kl (L.getD i.val zp):=fun h'=>e (aHi hp hi h').symm
  rw[has_put_other hne,atKey_put_other hne]
  exact h.2 p hp
theorem aUk (f d:Int):∀ p ∈ gX f d,p.wf:=by
 unfold gX
 rcases lI f d with⟨hm,rfl⟩|⟨hm,rfl⟩|hm
 ·have e:iX 0 d=vD:=by simp[iX,hm]
  rw[e];unfold Plc.wf gY;decide
 ·have e:iX 1 d=vT:=by simp[iX,hm]
  rw[e];unfold Plc.wf gY;decide
 ·have e:iX f d=[]:=by simp[iX,hm]
  rw[e];simp[jR]
theorem aS4 (f d:Int)(i:Nat):((gX f d).getD i zp).wf:=by
 by_cases h:i < (gX f d).length
 ·have e:(gX f d).getD i zp=(gX f d)[i]:=by simp[List.getD,h]
  rw[e];exact aUk f d _ (List.getElem_mem h)
 ·simp[List.getD,h,zp,Plc.wf,gY]
end
open Go.RowKit Go.Shelf Go.Maps
open YticnbcfmbhjbgaaGreatDoor (aB)
attribute [local go_sem] Oper.semAt_some
theorem bsz {w w2:World}{o:Obj}(h:Below (w.alloc o).heap.size (w.alloc o) w2):w.heap.size < w2.heap.size:=by have:=h.size;simp at this;omega
theorem aAt (c:Int)(w:World):(Instr.makeMap 260 (some (.i c))).run Tryz.prog w=.ok (.map (some w.heap.size)) (w.alloc (.map #[] 0)):=by
 simp[Instr.makeMap,run_underlying Tryz.underlying260,go_sem]
theorem aHm (m:Nat)(hm:6<=m)(f d:Int)(w:World) :
  CallsIn Fence.wide m Tryz.prog 187 #[.agg #[.i f,.i d]] w fun e w'=>∃ b D,e=.returned (.map (some b))/\w'.ownsMap Tryz.prog 135 (plainElem (H:=Unit) Tryz.prog 3) b 64 D/\Tab (gX f d) (upto (gX f d).length) D/\Below w.heap.size w w':=by
 have h1:1<=m:=by omega
 have hro:Fence.wide.round=none:=rfl
 have hmm:=aAt
 have hb:=aD w (.cells #[.i f,.i d] 23)
 refine callsIn_of_wp_marks Tryz.func187 rfl trivial ?_ hro
 simp only[Tryz.ntmps187,List.size_toArray,lLc,lLn,Nat.reduceAdd,Nat.reduceSub,Array.replicate_succ,Array.replicate_zero,List.push_toArray,List.append_toArray,List.nil_append,List.cons_append]
 gi_wp2_with (refine⟨trivial,?_⟩;first|(gi_at_call 260;refine(callsIn_wide.2 (aR3 f d _)).mono ?_;rintro e w3 ⟨rfl,rfl⟩)|(gi_at_call 132;refine(callsIn_wide.2 (qR f d _)).mono ?_;rintro e w2 ⟨rfl,hb2⟩;obtain⟨hc2,hf2⟩:=kG hb2;have hz2:=bsz hb2))
 have HB2:=aA (bel hb hb2)
 have hKd:=aB.new ((w2.alloc (.map #[] 0)).alloc (.cells #[.map (some w2.heap.size)] 260)) 23 #[.i f,.i d]
 have hLs:=(aB.new (w2.alloc (.map #[] 0)) 260 #[.map (some w2.heap.size)]).alloc (.cells #[.i f,.i d] 23)
 have hM:=((World.ownsMap_made w2 Tryz.prog 135 (plainElem (H:=Unit) Tryz.prog 3)).alloc (.cells #[.map (some w2.heap.size)] 260)).alloc (.cells #[.i f,.i d] 23)
 have hsz:(((w2.alloc (.map #[] 0)).alloc (.cells #[.map (some w2.heap.size)] 260)).alloc (.cells #[.i f,.i d] 23)).heap.size=w2.heap.size+3:=by simp
 have hB0:Below w.heap.size w (((w2.alloc (.map #[] 0)).alloc (.cells #[.map (some w2.heap.size)] 260)).alloc (.cells #[.i f,.i d] 23)) :=
  ((HB2.o.alloc HB2.o.size _).alloc (by have:=HB2.o.size;simp;omega) _).alloc (by have:=HB2.o.size;simp;omega) _
 simp only[wSa] at hKd hLs
 obtain⟨W0,hW0⟩:∃ W0,(((w2.alloc (.map #[] 0)).alloc (.cells #[.map (some w2.heap.size)] 260)).alloc (.cells #[.i f,.i d] 23))=W0:=⟨_,rfl⟩
 rw[hW0] at hKd hLs hM hsz hB0 ⊢
 clear hW0 hc2 hf2 hb2 hb HB2
 obtain⟨Z,hZ⟩:∃ Z,w2.heap.size=Z:=⟨_,rfl⟩
 rw[hZ] at hKd hLs hM hsz hz2 ⊢
 clear hZ
 obtain⟨L,hL⟩:∃ L,L=gX f d:=⟨_,rfl⟩
 have HL:=aA hL
 have hseq:=all_stops (m-1) (by omega) (Z+1+1) W0.heap.size f d W0 (by omega) (nLr _) (hKd.cell 0 rfl) (hKd.cell 1 rfl)
 rw[<-hL] at hseq
 clear hL
 refine wpIn_rangeFunc_ownH hro h1 (gf:=309) (lb:=#[.pointer (some ⟨Z+1+1,0,none⟩)]) rfl trivial (enters_of Tryz.func309 (by kernel_rfl) rfl)
  hseq (fun h k=>h.trans k) aKy (Below.refl _ _) (fun _=>rfl)
  (fun pre W=>(aB W (Z+1) 260 #[.map (some Z)]/\∃ D,W.ownsMap Tryz.prog 135 (plainElem (H:=Unit) Tryz.prog 3) Z pre.length D/\Tab L pre D)/\Below w.heap.size w W)
  (fun _ _ _=>False)
  (OwnFrom.and (OwnFrom.and (aDe _ _ _) (fun s X Y row hs hg hr=>by
   obtain⟨D,h1,h2⟩:=hs
   exact⟨D,h1.kept hg (fun e=>by have:=(hr _ e.symm).1;omega),h2⟩)) (ownFrom_below (nLr _) (by omega)))
  (fun _ _ _ _ _ hs _ _=>hs)
  ⟨⟨hLs,_,hM,Tab.nil L⟩,hB0⟩
  (fun x a' W=>∃ Bx,Z+1 < Bx/\aB W Bx 135 (mR (L.getD x.val zp))/\a'={ tmps:=#[.agg #[.i f,.i d],.pointer (some ⟨w.heap.size,0,none⟩),.map none,.pointer (some ⟨Z+1,0,none⟩),.i (x.val:Int),.pointer (some ⟨Bx,0,none⟩),.agg #[.i f,.i d],.i (bX f d),.map (some Z),.agg #[.i f,.i d],.func (.func 309) #[] #[.pointer (some ⟨Z+1+1,0,none⟩)],.i (x.val:Int),.agg (mR (L.getD x.val zp)),undef,undef,undef,undef],defers:=[] })
  (fun x a' _ X Y row hs hg hr=>by obtain⟨Bx,h1,h2,h3⟩:=hs;exact⟨Bx,h1,aE2 Bx 135 (fun(_:Unit)=>mR (L.getD x.val zp)) () X Y row h2 hg (fun r e=>(hr r e).2),h3⟩)
  ?assign ?body ?done ?stop
 case assign =>
  rintro l pre x W K ⟨⟨hLs1,D,hM1,hT1⟩,hB1⟩ hK
  simp only[encs]
  gi_wp2
  exact hK _ _ ((KeepsOthers.alloc _ _).from _) (KeepsIn.of_below (aD _ _)) ⟨⟨hLs1.alloc _,D,hM1.alloc _,hT1⟩,hB1.alloc hB1.size _⟩ ⟨W.heap.size,hLs1.lt,aB.new W 135 _,rfl⟩
 case body =>
  rintro l pre x a' W hl ⟨r,hr⟩ ⟨⟨hLs1,D,hM1,hT1⟩,hB1⟩ ⟨Bx,hBx,hX,rfl⟩ hlt
  have cL:=hLs1.cell 0 rfl
  obtain⟨p,hp0⟩:∃ p,p=L.getD x.val zp:=⟨_,rfl⟩
  have hpw:p.wf:=by rw[hp0,HL.o];exact aS4 f d _
  rw[<-hp0] at hX ⊢
  have HP:=aA hp0
  have HT:=aA hT1
  have HM:=aA hM1
  clear hp0 hT1 hM1
  have cx0:W.cell? ⟨Bx,0,none⟩=some (.i p.back):=hX.cell 0 rfl
  have cx1:W.cell? ⟨Bx,1,none⟩=some (.i p.coords):=hX.cell 1 rfl
  have cx2:W.cell? ⟨Bx,2,none⟩=some (.i p.x):=hX.cell 2 rfl
  have cx3:W.cell? ⟨Bx,3,none⟩=some (.i p.y):=hX.cell 3 rfl
  have hl64:pre.length < 64:=by have:=(kY f d).1;rw[<-HL.o] at this;omega
  gi_wp2_with (gi_at_mapUpdate;refine wpListIn_mapUpdate_own _ rfl _ _ _ 260 rfl 135 3 aI7 Tryz.underlying260 _ Z pre.length _ rfl HM.o (by unfold maxLen;omega) _ _ _ rfl rfl (gH hpw) _ [] (plainElem_int Tryz.underlying3 (lV (n:=(x.val:Int)) (by unfold gY;omega))) ?_;intro w1 hown1 hgrow1)
  exact⟨KeepsFrom.of_grownBy hgrow1 (fun j e=>by cases e;omega),KeepsIn.of_grownBy hgrow1 (fun j e=>by cases e;exact .inl (by omega)),
   ⟨hLs1.kept hgrow1 (by simp),_,by rw[lLa];exact hown1,by have h:=HT.o.snoc x (by rw[<-HP.o];exact hpw);rw[<-HP.o] at h;exact h⟩,hB1.grown hgrow1 hB1.size (fun k e=>by cases e;omega)⟩
 case done =>
  rintro D0 ys W hD rfl ⟨⟨hLs1,D,hM1,hT1⟩,hB1⟩ hK
  have cL:=hLs1.cell 0 rfl
  have hle:=(kY f d).1
  rw[<-HL.o] at hle
  rw[aGf _ (by omega)] at hM1
  gi_wp2
  refine⟨by simp,.inl ⟨_,_,rfl,run_takeDeferred hK,?_⟩⟩
  refine⟨_,results_tmp rfl _ _ _,Z,D,rfl,(hM1.mono (by omega)).kept (grownBy_putObj' _ D0 _) (fun e=>by cases e;omega),by rw[<-HL.o];exact hT1,hB1.trans (belowK_b (w:=w) (nLr _) W D0 _ _ (by omega) hK rfl rfl)⟩
 case stop =>
  rintro D c pre W _ _ h _
  exact h.elim
theorem aFg (f d:Int)(w:World) :
  Calls Tryz.prog 187 #[.agg #[.i f,.i d]] w fun e w'=>∃ b D,e=.returned (.map (some b))/\w'.ownsMap Tryz.prog 135 (plainElem (H:=Unit) Tryz.prog 3) b 64 D/\Tab (gX f d) (upto (gX f d).length) D/\Below w.heap.size w w' :=
 callsIn_wide.1 (aHm 6 (nLr _) f d w)
def mP (f d:Int)(p:Plc):Option Nat:=look (gX f d) (upto (gX f d).length) p
def aPe (f d:Int)(p:Plc):Value:=.tuple #[.i (((mP f d p).getD 0:Nat):Int),.bool (mP f d p).isSome]
theorem aXo {f d:Int}{p:Plc}(hp:p.wf){w2:World}{b:Nat}{D:DataW Unit}(hM:w2.ownsMap Tryz.prog 135 (plainElem (H:=Unit) Tryz.prog 3) b 64 D)(hT:Tab (gX f d) (upto (gX f d).length) D) :
  ∃ c q,(Instr.lookup 260 (.map (some b)) (.agg #[.i p.back,.i p.coords,.i p.x,.i p.y]) true).run Tryz.prog w2=.ok (.tuple #[.i c,.bool q]) w2/\Hid (.tuple #[.i c,.bool q]=aPe f d p):=by
 obtain⟨v,ps,hrun,hv⟩:=hM.look_ok aI7 Tryz.underlying260 (Tryz.zeroValue3 w2) (plainElem_int Tryz.underlying3 (lV (n:=0) (by unfold gY;omega))) (gH hp)
 obtain⟨c,rfl,hc,hwc⟩:=plainElem_int_inv Tryz.underlying3 hv
 obtain⟨t1,t2⟩:=hT.2 p hp
 have hc1:D.atKey (kl p) (.lit (.i 0))=.lit (.i c):=congrArg Prod.fst hc
 rw[t2] at hc1
 simp at hc1
 refine⟨_,_,hrun,?_⟩
 unfold Hid
 rw[t1,<-hc1]
 rfl
theorem jP (f d:Int)(p:Plc)(hp:p.wf)(w:World) :
  Calls Tryz.prog 111 #[.agg #[.i f,.i d],.agg #[.i p.back,.i p.coords,.i p.x,.i p.y]] w fun e w'=>e=.returned (aPe f d p)/\Below w.heap.size w w':=by
 have hb:=(aD w (.cells #[.i f,.i d] 23)).alloc (by simp) (.cells #[.i p.back,.i p.coords,.i p.x,.i p.y] 135)
 go_enter Tryz.func111,Tryz.ntmps111
 go_wp2
 go_region_with (go_at_call 187;refine(aFg _ _ _).mono ?_;rintro e w2 ⟨b,D,rfl,hM,hT,hb2⟩;obtain⟨hc2,hf2⟩:=kG hb2;obtain⟨c,q,hrun,hv⟩:=aXo hp hM hT)
 all_goals go_simp
 all_goals go_wp2
 all_goals go_ret2
 all_goals exact⟨by rw[<-hv.o];rfl,bel hb.drew hb2⟩
end Go.Proofs.Knd
namespace Go.Proofs.YticnbcfmbhjbgaaGreatDoor
section
open Lx Pz
open Go.Lib (decDigits itoa)
theorem fP {u:Nat}(h:u < 10):decDigits u=[UInt8.ofNat (48+u)]:=by rw[decDigits,dif_pos h]
theorem wZ {u:Nat}(h:¬u < 10):decDigits u=decDigits (u / 10)++[UInt8.ofNat (48+u % 10)]:=by rw[decDigits,dif_neg h]
theorem aCk {d:Nat}(h:d < 10):(UInt8.ofNat (48+d)).toNat=48+d:=UInt8.toNat_ofNat_of_lt (show 48+d < 256 by omega)
theorem bAh {d:Nat}(h:d < 10):D (UInt8.ofNat (48+d))=true:=aEd.2 (by rw[aCk h];omega)
theorem aNi (u:Nat):decDigits u≠[]:=by
 by_cases h:u < 10
 ·rw[fP h];simp
 ·rw[wZ h];simp
theorem aIt (u:Nat):(decDigits u).all D=true:=by
 induction u using Nat.strongRecOn with
 | _ u ih =>
  by_cases h:u < 10
  ·rw[fP h,lAc,bAh h];rfl
  ·rw[wZ h,List.all_append,ih (u / 10) (by omega),lAc,bAh (by omega)];rfl
theorem aNj (u:Nat):vl (decDigits u)=u:=by
 induction u using Nat.strongRecOn with
 | _ u ih =>
  by_cases h:u < 10
  ·rw[fP h]
   simp only[vl,List.foldl_cons,List.foldl_nil,aCk h]
   omega
  ·rw[wZ h,aJ5,ih (u / 10) (by omega),aCk (by omega)]
   omega
theorem aNh (u:Nat)(h0:0 < u):(decDigits u).headD 0≠48:=by
 induction u using Nat.strongRecOn with
 | _ u ih =>
  by_cases h:u < 10
  ·rw[fP h]
   simp only[List.headD_cons]
   intro e
   have:=congrArg UInt8.toNat e
   rw[aCk h] at this
   simp at this
   omega
  ·rw[wZ h]
   have h1:=ih (u / 10) (by omega) (by omega)
   cases hd:decDigits (u / 10) with
   | nil=>exact absurd hd (aNi _)
   | cons a l=>rw[hd] at h1;simpa using h1
theorem aSl {u:Nat}(h:u<=2147483647):num (decDigits u)=true:=by
 refine aJg (aNi u) (aIt u) ?_ (by rw[aNj];omega)
 by_cases h0:u=0
 ·subst h0;rw[fP (by omega)];rfl
 ·have:=aNh u (by omega)
  simp only[Bool.and_eq_false_iff,beq_eq_false_iff_ne]
  exact .inl this
def Fo (r:aM):Prop:=∀ d,r.head?=some d->W d=false
def St (r:aM):Prop:=∀ d,r.head?=some d->d≠60/\d≠61/\d≠62
def Tr (r:aM):Prop:=True
theorem aNy:Fo []:=fun d h=>by simp at h
theorem xC {c:UInt8}(h:W c=false)(r:aM):Fo (c::r):=fun d hd=>by simp at hd;subst hd;exact h
theorem W_D {d:UInt8}(h:W d=false):D d=false:=by
 cases hd:D d with
 | false=>rfl
 | true =>
  have:dg d.toNat=true:=hd
  simp[W,wi,this] at h
def AkP (P:aM->Prop)(x:aM)(ts:List Tk):Prop:=∀ r,P r->ak (x++r)=(ak r).map (ts++·)
theorem aEg {k:Int}{x r:aM}{c:UInt8}{t:aM}(hx:x=c::t)(h1:bl c=false)(h2:c≠35)(hk:kd (x++r)=k)(hz:sz (x++r)=x.length)(hm:may k x=true):ak (x++r)=(ak r).map ([ab ⟨k,x,0⟩]++·):=by
 subst hx
 have ht:((c::t)++r).take (c::t).length=c::t:=List.take_left
 have hd:((c::t)++r).drop (c::t).length=r:=List.drop_left
 have hg:gd ((c::t)++r)=true:=by unfold gd;rw[hk,hz,ht];exact hm
 rw[List.cons_append] at hg hk hz ht hd ⊢
 rw[aMq h1 h2 hg,hz,hk,ht,hd]
 rfl
theorem aMr {x:aM}(hw:rW x=true):AkP Fo x [.word x]:=by
 intro r hr
 cases x with
 | nil=>simp[rW] at hw
 | cons c t =>
  have hA:A c=true:=by simp[rW] at hw;exact hw.1.2
  have hall:(c::t).all W=true:=by simp only[rW,bAt] at hw;exact hw.2
  have h3:=aIj hA
  refine aEg (k:=2) rfl h3.1 h3.2.1 ?_ ?_ hw
  ·simp[kd,hA,h3.2.2.1]
  ·simp only[sz,List.cons_append,List.headD_cons,hA,h3.2.2.1,if_true,Bool.false_eq_true,if_false]
   rw[<-List.cons_append,rn,iI W _ _ hall hr]
theorem aMp {u:Nat}(h:u<=2147483647):AkP Fo (decDigits u) [.num u]:=by
 intro r hr
 have hn:=aSl h
 have hv:=aNj u
 have hall:=aIt u
 generalize decDigits u=x at *
 cases x with
 | nil=>simp[num] at hn
 | cons c t =>
  have hD:D c=true:=by simp at hall;exact hall.1
  have h3:=aZ4 hD
  have:=aEg (k:=1) (x:=c::t) (r:=r) rfl h3.1 h3.2 (by simp[kd,hD]) (by
   simp only[sz,List.cons_append,List.headD_cons,hD,if_true]
   rw[<-List.cons_append,rn,iI D _ _ hall (fun a ha=>W_D (hr a ha))]) hn
  rw[this]
  simp only[ab,if_true,hv]
theorem aGq (c:UInt8)(k:Tk)(hc:sh.contains c=true)(h60:c≠60)(h61:c≠61)(h62:c≠62)(h33:c≠33)(hk:mkT [c]=k):AkP Tr [c] [k]:=by
 intro r _
 rw[List.singleton_append,aR1 hc h60 h61 h62 h33 r,hk]
 rfl
theorem aV4:AkP Tr [40] [.lp]:=aGq 40 _ (by decide) (by decide) (by decide) (by decide) (by decide) (by decide)
theorem aV5:AkP Tr [41] [.rp]:=aGq 41 _ (by decide) (by decide) (by decide) (by decide) (by decide) (by decide)
theorem aEe:AkP Tr [44] [.comma]:=aGq 44 _ (by decide) (by decide) (by decide) (by decide) (by decide) (by decide)
theorem aEf:AkP Tr [45] [.op 5 9]:=aGq 45 _ (by decide) (by decide) (by decide) (by decide) (by decide) (by decide)
end
open Go.RowKit Go.IntWalk Lx Pz
variable {W w:World} {b:Nat} {v:Value}
structure Tv where
 nv:Value
 bv:Value
 dv:Value
 rv:Value
abbrev pcs (p v:Value)(t:Tv):Array Value:=#[p,v,t.nv,t.bv,t.dv,t.rv]
structure Pb (w W:World)(b:Nat)(t:Tv)(out:List UInt8):Prop where
 ex:∃ p v,(p=.pointer none\/p=.pointer (some ⟨b,0,none⟩))/\aB W b 145 (pcs p v t)/\W.ownsRow w.heap.size 5 1 v out.length (Lib.byteCells out)
 base:w.heap.size<=b
 old:Below w.heap.size w W
abbrev SP:List TypeId:=[145,5]
theorem Pb.later {W':World}{t:Tv}{out:List UInt8}(h:Pb w W b t out)(hb:Below W.heap.size W W'):Pb w W' b t out:=by
 obtain⟨p,v,hp,hc,ho⟩:=h.ex
 have hk:=Kp.of_below [] hb
 exact⟨⟨p,v,hp,hc.kp hk (by simp),bB ho hk (by simp)⟩,h.base,bel h.old hb⟩
theorem aOd:(Tryz.prog.info? 143).map (fun i=>i.size)=some 2:=by kernel_rfl
theorem aXi:liesAt Tryz.prog Tryz.prog.depth 145 (6 / Tryz.prog.cellsOf 145) 0 143 1=true:=by kernel_rfl
theorem info5:(Tryz.prog.info? 5).map (fun i=>(i.zero,i.size,i.bytes))=some (some (.int .u8 0),1,1):=by kernel_rfl
theorem yD (h0:W.cell? ⟨b,0,none⟩=some (.pointer (some ⟨b,0,none⟩))) :
  Calls Tryz.prog 212 #[ptr b] W fun e W'=>e=.returned (.tuple #[])/\W'=W:=by
 obtain⟨j,hj,_⟩:=Option.map_eq_some_iff.1 aOd
 go_enter Tryz.func212,Tryz.ntmps212
 go_wp2
 rw[Lib.run_neq_ptr_same W _ Tryz.underlying141 hj]
 go_wp2
 go_end0
 exact⟨rfl,rfl⟩
theorem wO {t:Tv}(hc:aB W b 145 (pcs (.pointer none) v t)) :
  Calls Tryz.prog 212 #[ptr b] W fun e W'=>e=.returned (.tuple #[])/\W'=W.setCell ⟨b,0,none⟩ (.pointer (some ⟨b,0,none⟩)):=by
 obtain⟨j,hj,hjs⟩:=Option.map_eq_some_iff.1 aOd
 have h0:=hc.cell 0 rfl
 have hfz:=hc.frozen 0
 have hsh:W.shape? b=some (145,6):=by
  have:W.heap[b]?=some (.cells (pcs (.pointer none) v t) 145 (0,0)):=hc
  simp[World.shape?,this]
 have HC:=aA hc
 clear hc
 go_enter Tryz.func212,Tryz.ntmps212
 go_wp2
 rw[Lib.run_to_unsafe W ⟨b,0,none⟩ Tryz.underlying141 Tryz.underlying328 hj (by rw[hjs];decide) hsh (Nat.zero_lt_succ 5)]
 simp only[Result.andThen]
 rw[Oper.upon_value]
 go_wp2
 rw[run_callFunc_extern Tryz.func283 (by kernel_rfl) (by kernel_rfl) (by kernel_rfl) (e:=Extern.AbiNoEscape.same) (by kernel_rfl)]
 rw[Lib.run_noEscape]
 simp only[Result.andThen]
 rw[Oper.upon_value]
 go_wp2
 rw[Lib.run_from_unsafe W ⟨b,0,none⟩ Tryz.underlying328 Tryz.underlying141 hj hsh aXi]
 simp only[Result.andThen]
 rw[Oper.upon_value]
 go_wp2
 go_end0
 exact⟨rfl,rfl⟩
theorem aJp {base:Nat}{t:TypeId}{cs:Array Value}{n:Nat}{xs:List Value}(h:W.ownsRow base 5 1 v n xs)(hc:aB W b t cs)(ht:t≠5)(i:Nat)(u:Value):(W.setCell ⟨b,i,none⟩ u).ownsRow base 5 1 v n xs :=
 bB h (Kp.set (S:=[t]) hc (by simp) i u) (by simpa using Ne.symm ht)
theorem rX {t:Tv}{out:List UInt8}(h:Pb w W b t out) :
  Calls Tryz.prog 212 #[ptr b] W fun e W'=>e=.returned (.tuple #[])/\(∃ v,aB W' b 145 (pcs (ptr b) v t)/\W'.ownsRow w.heap.size 5 1 v out.length (Lib.byteCells out))/\Below w.heap.size w W'/\Kp SP W W':=by
 obtain⟨p,v,rfl|rfl,hc,ho⟩:=h.ex
 ·refine(wO hc).mono ?_
  rintro e W' ⟨rfl,rfl⟩
  exact⟨rfl,⟨v,hc.set 0 _,aJp ho hc (by decide) 0 _⟩,h.old.setCell (p:=⟨b,0,none⟩) h.base _,Kp.set hc (by simp) 0 _⟩
 ·refine(yD (hc.cell 0 rfl)).mono ?_
  rintro e W' ⟨rfl,rfl⟩
  exact⟨rfl,⟨v,hc,ho⟩,h.old,Kp.refl _ _⟩
theorem Pb.put {W1 W2:World}{t:Tv}{v':Value}{row:Option Nat}{out':List UInt8}(hc:aB W1 b 145 (pcs (ptr b) v t))(hb:w.heap.size<=b)(ho:Below w.heap.size w W1)(hg:W1.grownBy W2 row)
  (hrow:∀ k,row=some k->w.heap.size<=k/\∃ cs fr,W1.heap[k]?=some (.cells cs 5 fr)) (hown:W2.ownsRow w.heap.size 5 1 v' out'.length (Lib.byteCells out')) :
  Pb w (W2.setCell ⟨b,1,none⟩ v') b t out'/\Kp SP W1 (W2.setCell ⟨b,1,none⟩ v'):=by
 have k1:Kp [5] W1 W2:=Kp.grown hg fun k hk=>by
  obtain⟨_,cs,fr,h⟩:=hrow k hk
  exact⟨cs,5,fr,h,by simp⟩
 have hc2:aB W2 b 145 (pcs (ptr b) v t):=hc.kp k1 (by decide)
 refine⟨⟨⟨_,v',.inr rfl,hc2.set 1 v',aJp hown hc2 (by decide) 1 _⟩,hb,?_⟩,(k1.mono (by simp)).trans (Kp.set hc2 (by simp) 1 _)⟩
 exact(ho.grown hg ho.size (fun k hk=>(hrow k hk).1)).setCell (p:=⟨b,1,none⟩) hb _
theorem aJo {base:Nat}{n:Nat}{xs:List Value}(h:W.ownsRow base 5 1 v n xs):∀ k,v.ownBlock=some k->base<=k/\∃ cs fr,W.heap[k]?=some (.cells cs 5 fr):=aR h
theorem strCells_eq (s:ByteArray):Lib.strCells s=Lib.byteCells (bs s):=rfl
theorem aY {t:Tv}{out:List UInt8}(h:Pb w W b t out)(s:ByteArray)(hlen:out.length+(bs s).length<=1099511627776) :
  Calls Tryz.prog 139 #[ptr b,.string s] W fun e W'=>e=.returned (.tuple #[.i s.size,.nilIface])/\Pb w W' b t (out++bs s)/\Kp SP W W':=by
 obtain⟨i0,hi,hz0,hz1,hz2⟩:=info_parts info5
 have hls:s.size=(bs s).length:=(dN s).symm
 have HB:=aA h.base
 have HC:=aA (rX h)
 have HL:=aA hlen
 have HS:=aA hls
 clear h hlen hls
 go_enter Tryz.func139,Tryz.ntmps139
 go_wp2_with fail
 refine HC.o.mono ?_
 rintro e W1 ⟨rfl,⟨v,hc,hown⟩,ho,hk⟩
 have c0:=hc.cell 0 rfl
 have c1:=hc.cell 1 rfl
 go_wp2_with (at_builtin;refine Lib.wpList_append_own_string _ rfl _ _ 41 9 rfl w.heap.size 5 i0 Tryz.underlying41 Tryz.underlying9 hi hz0 hz1 hz2 _ _ _ rfl hown s rfl ?c3 ?c4 ?c5 ?_)
 case c3=>have:=HL.o;have:=HS.o;unfold maxLen;omega
 case c4=>have:=HL.o;have:=HS.o;omega
 case c5=>exact ho.size
 intro v' W2 hown' hgrow _
 have hrow:=aJo hown
 obtain⟨hP,hK⟩:=Pb.put (out':=out++bs s) hc HB.o ho hgrow (fun k hk=>hrow k hk) (by rw[lLa,Lib.byteCells_append,<-strCells_eq,<-HS.o];exact hown')
 have k1:Kp [5] W1 W2:=Kp.grown hgrow fun k hk=>by
  obtain⟨_,cs,fr,h⟩:=hrow k hk
  exact⟨cs,5,fr,h,by simp⟩
 have hc2:aB W2 b 145 (pcs (ptr b) v t):=hc.kp k1 (by decide)
 have d1:=hc2.cell 1 rfl
 have f1:=hc2.frozen 1
 have HP:=aA hP
 have HK:=aA (hk.trans hK)
 clear hP hK
 obtain⟨ao,n',cap,rfl⟩:∃ ao n' cap,v'=.slice ao n' cap:=by
  rcases hown'.2 with⟨hv,_⟩|⟨g,cap,cur,hv,_⟩
  ·exact⟨_,_,_,hv⟩
  ·exact⟨_,_,_,hv⟩
 go_wp2
 go_ret2
 exact⟨rfl,HP.o,HK.o⟩
theorem aT {t:Tv}{out:List UInt8}(h:Pb w W b t out)(c:Nat)(hc8:c < 256)(hlen:out.length+1<=1099511627776) :
  Calls Tryz.prog 140 #[ptr b,.int .u8 c] W fun e W'=>e=.returned .nilIface/\Pb w W' b t (out++[UInt8.ofNat c])/\Kp SP W W':=by
 obtain⟨i0,hi,hz0,hz1,hz2⟩:=info_parts info5
 have HB:=aA h.base
 have HC:=aA (rX h)
 have HL:=aA hlen
 have H8:=aA hc8
 clear h hlen hc8
 go_enter Tryz.func140,Tryz.ntmps140
 go_wp2_with fail
 refine HC.o.mono ?_
 rintro e W1 ⟨rfl,⟨v,hc,hown⟩,ho,hk⟩
 have c0:=hc.cell 0 rfl
 have c1:=hc.cell 1 rfl
 go_wp2_with (at_builtin;refine wpList_append_own _ rfl _ _ 41 rfl w.heap.size 5 i0 (.int .u8 0) 1 1 Tryz.underlying41 hi hz0 hz1 hz2 rfl (by decide) _ _ _ rfl (hown.alloc _) ⟨W1.heap.size,0,none⟩ 1 1 [.int .u8 c] rfl rfl ?c1 ?c2 ?c3 ?c4 ?c5 ?_)
 case c1 =>
  intro j u hj
  match j,hj with
  | 0,hj=>simp at hj;subst hj;simp[Addr.add]
 case c2=>intro u hu;simp at hu;subst hu;rfl
 case c3=>have:=HL.o;unfold maxLen;omega
 case c4=>have:=HL.o;omega
 case c5=>have:=ho.size;simp;omega
 intro v' W2 hown' hgrow _
 have hcA:=hc.alloc (.cells #[.int .u8 c] 5)
 have hoA:=ho.alloc ho.size (.cells #[.int .u8 c] 5)
 have hrow:=aJo (hown.alloc (.cells #[.int .u8 c] 5))
 have hkA:Kp SP W1 (W1.alloc (.cells #[.int .u8 c] 5)):=Kp.of_below _ (aD _ _)
 have e8:(UInt8.ofNat c).toNat=c:=UInt8.toNat_ofNat_of_lt H8.o
 obtain⟨hP,hK⟩:=Pb.put (out':=out++[UInt8.ofNat c]) hcA HB.o hoA hgrow (fun k hk=>hrow k hk) (by rw[lLa,Lib.byteCells_append,show Lib.byteCells [UInt8.ofNat c]=[.int .u8 c] by simp only[Lib.byteCells,lMc,List.map_nil,e8]];exact hown')
 have k1:Kp [5] (W1.alloc (.cells #[.int .u8 c] 5)) W2:=Kp.grown hgrow fun k hk=>by
  obtain⟨_,cs,fr,h⟩:=hrow k hk
  exact⟨cs,5,fr,h,by simp⟩
 have hc2:aB W2 b 145 (pcs (ptr b) v t):=hcA.kp k1 (by decide)
 have d1:=hc2.cell 1 rfl
 have f1:=hc2.frozen 1
 have HP:=aA hP
 have HK:=aA ((hk.trans hkA).trans hK)
 clear hP hK e8
 obtain⟨ao,n',cap,rfl⟩:∃ ao n' cap,v'=.slice ao n' cap:=by
  rcases hown'.2 with⟨hv,_⟩|⟨g,cap,cur,hv,_⟩
  ·exact⟨_,_,_,hv⟩
  ·exact⟨_,_,_,hv⟩
 go_wp2
 go_ret
 exact⟨rfl,HP.o,HK.o⟩
theorem xE {t:Tv}{out:List UInt8}(h:Pb w W b t out) :
  Calls Tryz.prog 76 #[ptr b] W fun e W'=>e=.returned (.i out.length)/\W'=W:=by
 obtain⟨p,v,hp,hc,ho⟩:=h.ex
 obtain⟨ao,cap,rfl⟩:∃ ao cap,v=.slice ao out.length cap:=by
  rcases ho.2 with⟨hv,h0⟩|⟨g,cap,cur,hv,_⟩
  ·exact⟨none,0,by rw[hv,h0]⟩
  ·exact⟨_,_,hv⟩
 have c1:=hc.cell 1 rfl
 clear hc ho hp h
 go_enter Tryz.func76,Tryz.ntmps76
 go_wp2
 go_ret
 exact⟨rfl,rfl⟩
theorem cells5:Tryz.prog.cellsOf 5=1:=by kernel_rfl
theorem aH5 {t:Tv}{out:List UInt8}(h:Pb w W b t out)(h0:out≠[]) :
  Calls Tryz.prog 77 #[ptr b] W fun e W'=>e=.returned (.string (sB out))/\Below w.heap.size w W':=by
 obtain⟨p,v,hp,hc,hown⟩:=h.ex
 have hl0:out.length≠0:=by simpa using h0
 obtain⟨g,cap,cur,rfl,hbg,hg,hnc,hcm,hcs,htake⟩:∃ g cap cur,v=.slice (some ⟨g,0,none⟩) out.length cap/\w.heap.size<=g/\W.heap[g]?=some (.cells cur 5 (0,0))/\out.length<=cap/\cap<=maxLen/\cur.size=cap*1/\cur.toList.take (out.length*1)=Lib.byteCells out:=by
  rcases hown.2 with⟨_,hz⟩|⟨g,cap,cur,hv,r⟩
  ·exact absurd hz hl0
  ·exact⟨g,cap,cur,hv,r⟩
 have c1:W.drew.cell? ⟨b,1,none⟩=some (.slice (some ⟨g,0,none⟩) out.length cap):=hc.cell 1 rfl
 have hSD:(Builtin.unsafeSliceData_ #[41] 230 #[.slice (some ⟨g,0,none⟩) out.length cap]).run Tryz.prog W.drew=.ok (.pointer (some ⟨g,0,none⟩)) W.drew :=
  Lib.run_unsafeSliceData_row _ _ _ _ _ _ (by omega)
 have hUS:(Builtin.unsafeString_ #[230,3] 9 #[.pointer (some ⟨g,0,none⟩),.i out.length]).run Tryz.prog W.drew=.ok (.string (sB out)) (W.drew.freeze ⟨g,0,none⟩ out.length):=by
  refine Lib.run_unsafeString_row W.drew 230 3 9 5 Tryz.underlying230 cells5 g cur.size (by have hg':W.drew.heap[g]?=some (.cells cur 5 (0,0)):=hg;simp[World.shape?,hg']) out h0 (by omega) (by unfold maxLen at hcm;omega) ?_
  intro j x hx
  exact hown.cells (g:=g) rfl j (.int .u8 x.toNat) (by simp[Lib.byteCells,hx])
 have HB:=aA (Lib.below_freeze (Below.drew h.old) (p:=⟨g,0,none⟩) hbg out.length)
 clear hc hown hg hnc hcm hcs htake hp h h0 hl0 hbg
 go_enter Tryz.func77,Tryz.ntmps77
 go_wp2
 go_region
 all_goals (go_wp2;go_ret;exact⟨rfl,HB.o⟩)
end Go.Proofs.YticnbcfmbhjbgaaGreatDoor
namespace Pz
open Lx Go.Lib
def oO:List (aM × Nat):=[([],0),([],9),([],9),([],9),([],9),([],8),([97,98,115],9),([115,103,110],9),([43],6),([45],6),([42],7),([47],7),([37],7),([60,60],5),([62,62],5),([38],3),([124],1),([94],2),
 ([60],4),([60,61],4),([62],4),([62,61],4),([61,61],4),([33,61],4),([109,105,110],9),([109,97,120],9),([99,108,97,109,112],9),([109,101,100],9),([],0)]
def pG (o:Int):aM:=(oO.getD o.toNat ([],0)).1
def ork (o:Int):Nat:=(oO.getD o.toNat ([],0)).2
def zC:List aM:=[[120],[121],[99],[108,111],[104,105],[109,105,100]]
def rkE:E->Nat
 | .leaf n=>ork n.op
 | .un o _=>ork o
 | .bin o _ _=>ork o
 | .tri o _ _ _=>ork o
def brk (b:Bool)(l:aM):aM:=if b then 40::(l++[41]) else l
def lfk (o:Int):Nat:=if ork o=4 then 5 else ork o
def vL (n:Nd):aM:=(if n.back=0 then[112,40] else[113,40]++(itoa n.back++[44]))++(itoa n.x++((if n.co=2 then 44::itoa n.y else[])++[41]))
def wH (nm:List aM)(n:Nd):aM:=if n.op=1 then itoa n.k else if n.op=2 then zC.getD n.k.toNat [] else if n.op=4 then nm.getD n.k.toNat [] else vL n
def dI (nm:List aM):E->aM
 | .leaf n=>wH nm n
 | .un o a=>if o=5 then 45::brk (decide (rkE a < 8)) (dI nm a) else pG o++40::(dI nm a++[41])
 | .bin o a b=>if o=24\/o=25 then pG o++40::(dI nm a++44::(dI nm b++[41])) else brk (decide (rkE a < lfk o)) (dI nm a)++(pG o++brk (decide (rkE b < ork o+1)) (dI nm b))
 | .tri o a b c=>if o=28 then brk (decide (rkE a < 1)) (dI nm a)++63::(dI nm b++58::dI nm c) else pG o++40::(dI nm a++44::(dI nm b++44::(dI nm c++[41])))
def prp (nm:List aM)(c:Nat)(e:E):aM:=brk (decide (rkE e < c)) (dI nm e)
def dK (NS:List Nd):E->Nat->Prop
 | .leaf n,i=>NS[i]?=some n
 | .un o a,i=>∃ p:Nat,NS[i]?=some ⟨o,(p:Int),0,0,0,0,0,0,0⟩/\dK NS a p
 | .bin o a b,i=>∃ p q:Nat,NS[i]?=some ⟨o,(p:Int),(q:Int),0,0,0,0,0,0⟩/\dK NS a p/\dK NS b q
 | .tri o a b c,i=>∃ p q r:Nat,NS[i]?=some ⟨o,(p:Int),(q:Int),(r:Int),0,0,0,0,0⟩/\dK NS a p/\dK NS b q/\dK NS c r
theorem aCt {α:Type}(P M Q:List α)(x:α)(s:Nat)(h:s=P.length+M.length):(P++(M++[x])++Q)[s]?=some x:=by
 subst h
 rw[lAa,lAa,gAr (by omega),gAr (by omega)]
 simp
theorem iQ:∀(e:E) (P Q:List Nd),dK (P++e.flat P.length++Q) e (P.length+e.size-1)
 | .leaf n,P,Q=>by
  show (P++[n]++Q)[P.length+1-1]?=some n
  simp
 | .un o a,P,Q=>by
  have hp:=a.size_pos
  refine⟨P.length+a.size-1,?_,?_⟩
  ·simp only[E.flat,E.size]
   rw[aCt P _ Q _ _ (by rw[E.flat_len];omega)]
   simp only[Option.some.injEq,Nd.mk.injEq,and_self,and_true,true_and]
   omega
  ·have:=iQ a P ([⟨o,(P.length+a.size:Nat)-1,0,0,0,0,0,0,0⟩]++Q)
   simpa only [E.flat,lAa] using this
 | .bin o a b,P,Q=>by
  have hp:=a.size_pos
  have hq:=b.size_pos
  refine⟨P.length+a.size-1,P.length+a.size+b.size-1,?_,?_,?_⟩
  ·simp only[E.flat,E.size]
   rw[aCt P _ Q _ _ (by rw[lLa,E.flat_len,E.flat_len];omega)]
   simp only[Option.some.injEq,Nd.mk.injEq,and_self,and_true,true_and]
   omega
  ·have:=iQ a P (b.flat (P.length+a.size)++([⟨o,(P.length+a.size:Nat)-1,(P.length+a.size+b.size:Nat)-1,0,0,0,0,0,0⟩]++Q))
   simpa only [E.flat,lAa] using this
  ·have:=iQ b (P++a.flat P.length) ([⟨o,(P.length+a.size:Nat)-1,(P.length+a.size+b.size:Nat)-1,0,0,0,0,0,0⟩]++Q)
   rw[lLa,E.flat_len] at this
   simpa only [E.flat,lAa] using this
 | .tri o a b c,P,Q=>by
  have hp:=a.size_pos
  have hq:=b.size_pos
  have hr:=c.size_pos
  refine⟨P.length+a.size-1,P.length+a.size+b.size-1,P.length+a.size+b.size+c.size-1,?_,?_,?_,?_⟩
  ·simp only[E.flat,E.size]
   rw[aCt P _ Q _ _ (by rw[lLa,lLa,E.flat_len,E.flat_len,E.flat_len];omega)]
   simp only[Option.some.injEq,Nd.mk.injEq,and_self,and_true,true_and]
   omega
  ·have:=iQ a P (b.flat (P.length+a.size)++(c.flat (P.length+a.size+b.size)++([⟨o,(P.length+a.size:Nat)-1,(P.length+a.size+b.size:Nat)-1,(P.length+a.size+b.size+c.size:Nat)-1,0,0,0,0,0⟩]++Q)))
   simpa only [E.flat,lAa] using this
  ·have:=iQ b (P++a.flat P.length) (c.flat (P.length+a.size+b.size)++([⟨o,(P.length+a.size:Nat)-1,(P.length+a.size+b.size:Nat)-1,(P.length+a.size+b.size+c.size:Nat)-1,0,0,0,0,0⟩]++Q))
   rw[lLa,E.flat_len] at this
   simpa only [E.flat,lAa] using this
  ·have:=iQ c (P++a.flat P.length++b.flat (P.length+a.size)) ([⟨o,(P.length+a.size:Nat)-1,(P.length+a.size+b.size:Nat)-1,(P.length+a.size+b.size+c.size:Nat)-1,0,0,0,0,0⟩]++Q)
   rw[lLa,lLa,E.flat_len,E.flat_len] at this
   simpa only [E.flat,lAa] using this
theorem aBe:∀(es:List E) (P Q:List Nd) (j:Nat) (e:E),es[j]?=some e->∃ p:Nat,(iA es P.length)[j]?=some (p:Int)/\dK (P++jL es P.length++Q) e p
 | [],P,Q,j,e,h=>by simp at h
 | a::es,P,Q,0,e,h=>by
  simp at h;subst h
  refine⟨P.length+a.size-1,?_,?_⟩
  ·have:=a.size_pos
   simp only[iA,List.getElem?_cons_zero,Option.some.injEq]
   omega
  ·have:=iQ a P (jL es (P.length+a.size)++Q)
   simpa only [jL,lAa] using this
 | a::es,P,Q,j+1,e,h=>by
  obtain⟨p,h1,h2⟩:=aBe es (P++a.flat P.length) Q j e (by simpa using h)
  rw[lLa,E.flat_len] at h1 h2
  refine⟨p,by simpa only [iA,List.getElem?_cons_succ] using h1,?_⟩
  simpa only [jL,lAa] using h2
end Pz
