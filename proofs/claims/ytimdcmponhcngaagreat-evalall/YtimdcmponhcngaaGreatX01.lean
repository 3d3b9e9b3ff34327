import Derived.RangeFuncNested
import Derived.RangeFuncBound
import Derived.RangeFuncCalls
import Derived.RangeFuncLeaves
import Derived.Shelf.Abstract
import Derived.Shelf.RegionOpen
import Derived.OwnWalkIn
import Derived.TacticsInMore
import Derived.LoopNIn
import Derived.LoopIn
import Derived.Test.YtimdcmponhcngaaGreatX00
namespace Go.Proofs.YtimdcmponhcngaaGreat.Knd
open Go.RowKit Go.Shelf
set_option linter.unusedVariables false
set_option maxRecDepth 100000
set_option maxHeartbeats 16000000
attribute [local go_sem] Oper.semAt_some
structure KeepsIn (B:Nat)(W W':World):Prop where
 size:W.heap.size<=W'.heap.size
 same:∀(k:Nat) (o:Obj),B<=k->W.heap[k]?=some o->o.isCells=true->W'.heap[k]?=some o
theorem KeepsIn.refl (B:Nat)(W:World):KeepsIn B W W:=⟨Nat.le_refl _,fun _ _ _ h _=>h⟩
theorem KeepsIn.trans {B:Nat}{X Y Z:World}(h:KeepsIn B X Y)(k:KeepsIn B Y Z):KeepsIn B X Z :=
 ⟨Nat.le_trans h.size k.size,fun i o hB hi ho=>k.same i o hB (h.same i o hB hi ho) ho⟩
theorem KeepsIn.of_grownBy {B:Nat}{W W':World}{row:Option Nat}(hg:W.grownBy W' row)(hrow:∀ j,row=some j->j < B\/∃ o,W.heap[j]?=some o/\o.isCells=false):KeepsIn B W W' :=
 ⟨hg.size,fun k o hB hk ho=>(hg.block k (Array.getElem?_eq_some_iff.1 hk).1 (fun e=>by
  rcases hrow k e.symm with h|⟨o',h1,h2⟩
  ·omega
  ·rw[hk] at h1;cases h1;rw[ho] at h2;cases h2)).trans hk⟩
theorem KeepsIn.of_below {B:Nat}{W W':World}(h:Below W.heap.size W W'):KeepsIn B W W' :=
 ⟨h.size,fun k o _ hk _=>(h.block k (Array.getElem?_eq_some_iff.1 hk).1).trans hk⟩
theorem keepsIn_b {B:Nat}{w:World}(W:World)(l:Nat)(o o':Obj)(_:w.heap.size<=l)(h:W.heap[l]?=some o)(hc:o.isCells=false)(_:o.isWalk=false):KeepsIn B W (W.putObj l o') :=
 KeepsIn.of_grownBy (grownBy_putObj' W l o') (fun j e=>by cases e;exact .inr ⟨o,h,hc⟩)
theorem grownBy_none_of_below {W W':World}(h:Below W.heap.size W W'):W.grownBy W' none:=⟨h.os,h.tape,h.output,h.size,fun k hk _=>h.block k hk⟩
def zp:Plc:=⟨0,0,0,0⟩
def encs (L:List Plc)(i:Fin 64):Array Value :=
 #[.int .i64 (i.val:Int),.agg #[.int .i64 (L.getD i.val zp).back,.int .i64 (L.getD i.val zp).coords,.int .i64 (L.getD i.val zp).x,.int .i64 (L.getD i.val zp).y]]
theorem encs_of {L:List Plc}{N:Nat}(h:N < 64){p:Plc}(hp:L[N]?=some p):encs L ⟨N,h⟩=#[.int .i64 (N:Int),.agg #[.int .i64 p.back,.int .i64 p.coords,.int .i64 p.x,.int .i64 p.y]]:=by
 simp[encs,List.getD,hp]
theorem rects {w2:World}{base:Nat}{v:Value}{l:List Blk}(h:w2.ownsRow base 130 6 v l.length (bcells l)) :
  ∃ a cap,v=.slice a l.length cap/\(l=[]\/∃ g cur,a=some ⟨g,0,none⟩/\base<=g/\w2.heap[g]?=some (.cells cur 130 (0,0))/\∀ i,i < l.length*6->cur[i]?=(bcells l)[i]?):=by
 rcases h.2 with⟨rfl,hl⟩|⟨g,cap,cur,rfl,hb,hg,_,_,hsz,htk⟩
 ·exact⟨none,0,by rw[hl],.inl (List.eq_nil_of_length_eq_zero hl)⟩
 ·refine⟨_,_,rfl,.inr ⟨g,cur,rfl,hb,hg,fun i hi=>?_⟩⟩
  rw[<-htk,List.getElem?_take,if_pos hi,Array.getElem?_toList]
theorem rect_cells {wr:World}{g:Nat}{cur:Array Value}{l:List Blk}(hg:wr.heap[g]?=some (.cells cur 130 (0,0)))(hc:∀ i,i < l.length*6->cur[i]?=(bcells l)[i]?)(j:Nat)(hj:j < l.length) :
  wr.cell? ⟨g,j*6,none⟩=some (.int .i64 l[j].back)/\wr.cell? ⟨g,j*6+1,none⟩=some (.int .i64 l[j].coords)/\wr.cell? ⟨g,j*6+2,none⟩=some (.int .i64 l[j].y0)/\wr.cell? ⟨g,j*6+3,none⟩=some (.int .i64 l[j].y1)/\wr.cell? ⟨g,j*6+4,none⟩=some (.int .i64 l[j].x0)/\wr.cell? ⟨g,j*6+5,none⟩=some (.int .i64 l[j].x1):=by
 have h:=fun i (hi:i < 6)=>(cell_of_row wr g (j*6+i) cur 130 (0,0) hg).trans ((hc _ (by omega)).trans (bcells_at l j i hj hi))
 exact⟨h 0 (by decide),h 1 (by decide),h 2 (by decide),h 3 (by decide),h 4 (by decide),h 5 (by decide)⟩
theorem box_cells {wr:World}{g:Nat}{b:Blk}(hg:wr.heap[g]?=some (.cells #[.int .i64 b.back,.int .i64 b.coords,.int .i64 b.y0,.int .i64 b.y1,.int .i64 b.x0,.int .i64 b.x1] 130 (0,0))) :
  wr.cell? ⟨g,0,none⟩=some (.int .i64 b.back)/\wr.cell? ⟨g,1,none⟩=some (.int .i64 b.coords)/\wr.cell? ⟨g,2,none⟩=some (.int .i64 b.y0)/\wr.cell? ⟨g,3,none⟩=some (.int .i64 b.y1)/\wr.cell? ⟨g,4,none⟩=some (.int .i64 b.x0)/\wr.cell? ⟨g,5,none⟩=some (.int .i64 b.x1):=by
 have h:=fun i=>cell_of_row wr g i _ 130 (0,0) hg
 exact⟨h 0,h 1,h 2,h 3,h 4,h 5⟩
theorem all1_in (n:Nat)(hn:1<=n)(l Bk B:Nat)(f d:Int)(J Jx:List (Fin 64)->World->Prop)(W:World)(hB:B<=W.heap.size)
  (hJ:AbidesFrom W.heap.size J)
  (hY:∀ pre x W1,J pre W1->pre.length < (plcs f d).length->YieldAt Fence.wide (n-1) Tryz.prog l (encs (plcs f d) x) W1 fun e W' =>
   (e=.returned (.bool true)/\J (pre++[x]) W'/\KeepsIn B W1 W')\/(e=.returned (.bool false)/\Jx (pre++[x]) W'))
  (hk0:W.cell? ⟨Bk,0,none⟩=some (.int .i64 f)) (hk1:W.cell? ⟨Bk,1,none⟩=some (.int .i64 d)) (h0:J [] W) :
  CallsIn Fence.wide n Tryz.prog 83 #[.func (.yield l) #[] #[],.pointer (some ⟨Bk,0,none⟩)] W fun e W'=>(∃ v,e=.returned v) /\
   ((∃ xs,xs=upto (plcs f d).length/\J xs W')\/(∃ pre,(∃ k,k<=(plcs f d).length/\pre=upto k)/\Jx pre W')):=by
 have hro:Fence.wide.round=none:=rfl
 refine callsIn_of_wp Tryz.func83 rfl trivial ?_ hro
 simp only[Tryz.ntmps83,List.size_toArray,List.length_cons,List.length_nil,Nat.reduceAdd,Nat.reduceSub,Array.replicate_succ,Array.replicate_zero,List.push_toArray,List.append_toArray,List.nil_append,List.cons_append]
 gi_wp2_with (refine⟨trivial,?_⟩;gi_at_call 84;refine(callsIn_wide.2 (blocks_any f d _)).mono ?_;rintro e w2 ⟨v,rfl,hown,hb2⟩;obtain⟨va,vc,rfl,hrect⟩:=rects hown;have HRect:=hide hrect;have HB2:=hide hb2;clear hown hb2 hrect;obtain⟨LL,hLL⟩:∃ LL,LL=blks f d:=⟨_,rfl⟩;rw[<-hLL] at HRect ⊢;have HLL:=hide hLL;clear hLL)
 have HJ2:Hid (J (upto 0) w2):=hJ _ _ _ none h0 (grownBy_none_of_below HB2.out) (fun r e=>by cases e)
 obtain⟨hlen,h5,hbd⟩:=blks_bound f d
 rw[<-HLL.out] at h5 hbd
 have HN:=hide hlen
 have HBd:=hide hbd
 have HY:=hide hY
 clear hlen hbd hY
 gi_loopw [3,11] (fun nv iv wr=>∃ j N:Nat,j<=LL.length/\iv=.int .i64 j/\nv=.int .i64 N/\N < 64/\Hid (N=cnt LL j)/\Hid (J (upto N) wr)/\Hid (KeepsIn B w2 wr)) (fun _ iv _=>LL.length-(intOf iv).toNat)
 case atStart=>exact⟨0,0,Nat.zero_le _,rfl,rfl,by decide,rfl,HJ2,KeepsIn.refl _ _⟩
 case round =>
  obtain⟨j,N,hj,rfl,rfl,hN64,HNc,HJr,HKr⟩:=hrel
  by_cases hlt:j < LL.length
  ·rcases HRect.out with hnil|⟨g,cur,rfl,hgb,hgc,hcs⟩
   ·rw[hnil] at hlt;simp at hlt
   have HG:Hid (wr.heap[g]?=some (.cells cur 130 (0,0))):=HKr.out.same g _ (by omega) hgc rfl
   obtain⟨c0,c1,c2,c3,c4,c5⟩:=rect_cells HG.out hcs j hlt
   have HCS:=hide hcs
   have HGC:=hide hgc
   clear hcs hgc HRect
   obtain⟨bk,hbk⟩:∃ bk,bk=LL[j]:=⟨_,rfl⟩
   rw[<-hbk] at c0 c1 c2 c3 c4 c5
   have HBK:=hide hbk
   obtain⟨q1,q2,q3,q4,q5,q6,q7,q8⟩:=HBd.out bk (by rw[hbk];exact List.getElem_mem hlt)
   clear hbk
   have hbx:(wr.alloc (.cells #[.int .i64 bk.back,.int .i64 bk.coords,.int .i64 bk.y0,.int .i64 bk.y1,.int .i64 bk.x0,.int .i64 bk.x1] 130)).heap[wr.heap.size]?=some (.cells #[.int .i64 bk.back,.int .i64 bk.coords,.int .i64 bk.y0,.int .i64 bk.y1,.int .i64 bk.x0,.int .i64 bk.x1] 130 (0,0)):=heap_alloc_new wr _
   have HBx:=hide hbx
   have HJ3:Hid (J (upto N) (wr.alloc (.cells #[.int .i64 bk.back,.int .i64 bk.coords,.int .i64 bk.y0,.int .i64 bk.y1,.int .i64 bk.x0,.int .i64 bk.x1] 130))):=hJ _ _ _ none HJr.out (World.grownBy_alloc _ _ none) (fun r e=>by cases e)
   have HK3:Hid (KeepsIn B w2 (wr.alloc (.cells #[.int .i64 bk.back,.int .i64 bk.coords,.int .i64 bk.y0,.int .i64 bk.y1,.int .i64 bk.x0,.int .i64 bk.x1] 130))):=HKr.out.trans (KeepsIn.of_below (bel1 _ _))
   have HBb:Hid (B<=wr.heap.size):=Nat.le_trans hB (Nat.le_trans HB2.out.size HKr.out.size)
   have HRows:Hid (N+bk.rows*bk.cols < 64/\N+bk.rows*bk.cols=cnt LL (j+1)/\cnt LL (j+1)<=(plcs f d).length):=by
    have h1:=cnt_succ LL j hlt
    have h2:=cnt_mono LL (j+1) hlt
    have h3:=HN.out
    have h4:=HNc.out
    unfold plcs at h3 ⊢
    rw[<-HLL.out] at h3 ⊢
    rw[HBK.out]
    exact⟨by omega,by omega,h2⟩
   clear hbx
   gi_wp2
   clear c0 c1 c2 c3 c4 c5 HG HJr HKr HJ2
   generalize (wr.alloc (.cells #[.int .i64 bk.back,.int .i64 bk.coords,.int .i64 bk.y0,.int .i64 bk.y1,.int .i64 bk.x0,.int .i64 bk.x1] 130))=w3 at HBx HJ3 HK3 ⊢
   generalize wr.heap.size=Bb at HBx HBb ⊢
   gi_loopw [3,6] (fun nv yv wt=>∃(t M:Nat) (Y:Int),t<=bk.rows/\yv=.int .i64 Y/\-2<=Y/\Y<=bk.y1+1/\Hid (Y=bk.y0+(t:Int))/\nv=.int .i64 M/\M < 64/\Hid (M=N+t*bk.cols)/\Hid (J (upto M) wt)/\Hid (KeepsIn B w2 wt)/\Hid (wt.heap[Bb]?=some (.cells #[.int .i64 bk.back,.int .i64 bk.coords,.int .i64 bk.y0,.int .i64 bk.y1,.int .i64 bk.x0,.int .i64 bk.x1] 130 (0,0)))) (fun _ yv _=>(bk.y1+1-intOf yv).toNat)
   case atStart=>exact⟨0,N,bk.y0,Nat.zero_le _,rfl,by omega,by omega,by unfold Hid;simp,rfl,hN64,by unfold Hid;simp,HJ3,HK3,HBx⟩
   case round =>
    obtain⟨t,M,Y,ht,rfl,hY1,hY2,HYt,rfl,hM64,HM,HJt,HKt,HBt⟩:=hrel
    obtain⟨b0,b1,b2,b3,b4,b5⟩:=box_cells HBt.out
    by_cases hle:Y<=bk.y1
    ·have htr:t < bk.rows:=by
      have:=HYt.out
      unfold Blk.rows
      omega
     have HIdx:Hid (M+bk.cols < 64/\M+bk.cols=N+(t+1)*bk.cols/\∀ s,s < bk.cols->M+s < (plcs f d).length/\(plcs f d)[M+s]?=some ⟨bk.back,bk.coords,bk.x0+(s:Int),Y⟩):=by
      obtain⟨r1,r2,r3⟩:=HRows.out
      have h1:(t+1)*bk.cols<=bk.rows*bk.cols:=Nat.mul_le_mul_right _ htr
      have h2:=HM.out
      have h3:(t+1)*bk.cols=t*bk.cols+bk.cols:=Nat.succ_mul _ _
      refine⟨by omega,by omega,fun s hs=>⟨by omega,?_⟩⟩
      have h4:=plsAll_at LL j t s hlt (by rw[<-HBK.out];exact htr) (by rw[<-HBK.out];exact hs)
      rw[<-HBK.out,<-HNc.out,HLL.out] at h4
      rw[HYt.out,h2,show N+t*bk.cols+s=N+(t*bk.cols+s) by omega]
      exact h4
     clear b0 b1 b2
     gi_wp2
     clear b3 b4 b5
     generalize wr=wt at HJt HKt HBt ⊢
     gi_loopw [3,7] (fun nv xv ws=>∃(s R:Nat) (X:Int),s<=bk.cols/\xv=.int .i64 X/\-16<=X/\X<=bk.x1+1/\Hid (X=bk.x0+(s:Int))/\nv=.int .i64 R/\R < 64/\Hid (R=M+s)/\Hid (J (upto R) ws)/\Hid (KeepsIn B w2 ws)/\Hid (ws.heap[Bb]?=some (.cells #[.int .i64 bk.back,.int .i64 bk.coords,.int .i64 bk.y0,.int .i64 bk.y1,.int .i64 bk.x0,.int .i64 bk.x1] 130 (0,0)))) (fun _ xv _=>(bk.x1+1-intOf xv).toNat)
     case atStart=>exact⟨0,M,bk.x0,Nat.zero_le _,rfl,by omega,by omega,by unfold Hid;simp,rfl,hM64,by unfold Hid;simp,HJt,HKt,HBt⟩
     case round =>
      obtain⟨s,R,X,hs,rfl,hX1,hX2,HXs,rfl,hR64,HR,HJs,HKs,HBs⟩:=hrel
      obtain⟨b0,b1,b2,b3,b4,b5⟩:=box_cells HBs.out
      by_cases hlx:X<=bk.x1
      ·have hsc:s < bk.cols:=by
        have:=HXs.out
        unfold Blk.cols
        omega
       obtain⟨i1,i2,i3⟩:=HIdx.out
       obtain⟨i4,i5⟩:=i3 s hsc
       rw[<-HXs.out,<-HR.out] at i5
       have hR1:R+1 < 64:=by have:=HR.out;omega
       have HLen:Hid (R < (plcs f d).length):=by unfold Hid;have:=HR.out;omega
       have hyy:=HY.out (upto R) ⟨R,hR64⟩ wr HJs.out (by rw[upto_len R (by omega)];exact HLen.out)
       rw[encs_of hR64 i5,<-upto_succ R hR64] at hyy
       obtain⟨fn,tmps,assign,body,hy,hRd⟩:=hyy
       dsimp only at hy
       clear i1 i2 i3 i4 i5 b2 b3
       gi_wp2
       refine hRd.mono ?_
       rintro e W3 (⟨rfl,hJ3,hk3⟩|⟨rfl,hJx3⟩)
       ·have HJ4:=hide hJ3
        have HK4:=hide hk3
        clear hJ3 hk3 b0 b1 b4 b5
        gi_wp2
        refine⟨⟨s+1,R+1,X+1,hsc,rfl,by omega,by omega,?_,by go_num,hR1,?_,HJ4,HKs.out.trans HK4.out,HK4.out.same Bb _ HBb.out HBs.out rfl⟩,?_⟩
        ·have:=HXs.out
         unfold Hid
         omega
        ·have:=HR.out
         unfold Hid
         omega
        ·simp[intOf];omega
       ·gi_wp2
        refine bodyPost_ret (results_none rfl _ _ _) rfl ?_
        exact⟨⟨_,rfl⟩,.inr ⟨_,⟨R+1,HLen.out,rfl⟩,hJx3⟩⟩
      ·have hsc:s=bk.cols:=by
        have:=HXs.out
        unfold Blk.cols at hs ⊢
        omega
       gi_wp2
       refine⟨⟨t+1,R,Y+1,htr,rfl,by omega,by omega,?_,rfl,hR64,?_,HJs,HKs,HBs⟩,?_⟩
       ·have:=HYt.out
        unfold Hid
        omega
       ·have h1:=HR.out
        have h2:=HIdx.out.2.1
        unfold Hid
        omega
       ·simp[intOf];omega
    ·have htr:t=bk.rows:=by
      have:=HYt.out
      unfold Blk.rows at ht ⊢
      omega
     gi_wp2
     refine⟨⟨j+1,M,hlt,by go_num,rfl,hM64,?_,HJt,HKt⟩,?_⟩
     ·have h1:=HM.out
      have h2:=HRows.out.2.1
      unfold Hid
      rw[htr] at h1
      omega
     ·simp[intOf];omega
  ·obtain rfl:j=LL.length:=by omega
   gi_wp2
   go_end0
   refine⟨⟨_,rfl⟩,.inl ⟨_,?_,HJr.out⟩⟩
   rw[HNc.out,cnt_all,plcs,HLL.out]
theorem all_stops (n:Nat)(hn:1<=n)(Bk B:Nat)(f d:Int)(w:World)(hBk:Bk < w.heap.size)(hB:B<=w.heap.size)
  (hk0:w.cell? ⟨Bk,0,none⟩=some (.int .i64 f)) (hk1:w.cell? ⟨Bk,1,none⟩=some (.int .i64 d)) :
  SeqStopsK Fence.wide n Tryz.prog 83 #[.pointer (some ⟨Bk,0,none⟩)] (encs (plcs f d)) (KeepsIn B) (fun xs=>xs=upto (plcs f d).length)
   (fun pre=>∃ k,k<=(plcs f d).length/\pre=upto k) (plcs f d).length w:=fun l J Jx W hW hJ _ hY h0 =>
 all1_in n hn l Bk B f d J Jx W (Nat.le_trans hB hW.size) hJ hY ((hW.cell (p:=⟨Bk,0,none⟩) hBk).trans hk0) ((hW.cell (p:=⟨Bk,1,none⟩) hBk).trans hk1) h0
theorem all_any (f d:Int)(w:World) :
  Calls Tryz.prog 52 #[.agg #[.int .i64 f,.int .i64 d]] w fun e w'=>e=.returned (.func (.func 83) #[] #[.pointer (some ⟨w.heap.size,0,none⟩)])/\w'=w.alloc (.cells #[.int .i64 f,.int .i64 d] 23):=by
 go_enter Tryz.func52,Tryz.ntmps52
 go_wp2
 go_ret
 exact⟨rfl,rfl⟩
end Go.Proofs.YtimdcmponhcngaaGreat.Knd
namespace Go.Proofs.YtimdcmponhcngaaGreat.Knd
open Go.RowKit Go.Shelf
set_option linter.unusedVariables false
set_option maxRecDepth 100000
set_option maxHeartbeats 16000000
attribute [local go_sem] Oper.semAt_some
def HasC (W:World)(b:Nat)(t:TypeId)(cs:Array Value):Prop:=W.heap[b]?=some (.cells cs t (0,0))
theorem HasC.lt {W:World}{b:Nat}{t:TypeId}{cs:Array Value}(h:HasC W b t cs):b < W.heap.size:=(Array.getElem?_eq_some_iff.1 h).1
theorem HasC.new (W:World)(t:TypeId)(cs:Array Value):HasC (W.alloc (.cells cs t)) W.heap.size t cs:=heap_alloc_new W _
theorem HasC.kept {W W':World}{row:Option Nat}{b:Nat}{t:TypeId}{cs:Array Value}(h:HasC W b t cs)(hg:W.grownBy W' row)(hne:some b≠row):HasC W' b t cs:=(hg.block b h.lt hne).trans h
theorem HasC.alloc {W:World}{b:Nat}{t:TypeId}{cs:Array Value}(h:HasC W b t cs)(o:Obj):HasC (W.alloc o) b t cs:=h.kept (World.grownBy_alloc W o none) (by simp)
theorem HasC.below {W W':World}{b:Nat}{t:TypeId}{cs:Array Value}(h:HasC W b t cs)(hb:Below W.heap.size W W'):HasC W' b t cs:=(hb.block b h.lt).trans h
theorem HasC.cell {W:World}{b:Nat}{t:TypeId}{cs:Array Value}(h:HasC W b t cs)(i:Nat){v:Value}(hv:cs[i]?=some v):W.cell? ⟨b,i,none⟩=some v:=(cell_of_row W b i cs t (0,0) h).trans hv
theorem HasC.frozen {W:World}{b:Nat}{t:TypeId}{cs:Array Value}(h:HasC W b t cs)(i:Nat):W.frozen? ⟨b,i,none⟩=false:=by
 simp[World.frozen?,show W.heap[b]?=_ from h]
theorem HasC.other {W:World}{b:Nat}{t:TypeId}{cs:Array Value}(h:HasC W b t cs){p:Addr}(hne:b≠p.block)(u:Value):HasC (W.setCell p u) b t cs:=(Below.heap_setCell W p u b hne).trans h
theorem HasC.set {W:World}{b:Nat}{t:TypeId}{cs:Array Value}(h:HasC W b t cs)(i:Nat)(u:Value):HasC (W.setCell ⟨b,i,none⟩ u) b t (cs.setIfInBounds i u):=by
 obtain⟨hlt,hk⟩:=Array.getElem?_eq_some_iff.1 h
 show (W.heap.modify b _)[b]?=_
 rw[Array.getElem?_eq_getElem (by rw[Array.size_modify];exact hlt),Array.getElem_modify_self,hk]
 rfl
theorem hasC_own {β:Type}(b:Nat)(t:TypeId)(f:β->Array Value):Own (fun s W=>HasC W b t (f s)):=fun s X Y row hs hg hrow =>
 hs.kept hg (fun e'=>by obtain⟨o,ho,hc⟩:=hrow b e'.symm;rw[show X.heap[b]?=_ from hs] at ho;cases ho;cases hc)
def pcells (p:Plc):Array Value:=#[.int .i64 p.back,.int .i64 p.coords,.int .i64 p.x,.int .i64 p.y]
theorem ownFrom_hasC {β:Type}{B:Nat}(b:Nat)(t:TypeId)(f:β->Array Value):OwnFrom B (fun s W=>HasC W b t (f s)):=Own.from (hasC_own b t f) B
end Go.Proofs.YtimdcmponhcngaaGreat.Knd
namespace Go.Proofs.YtimdcmponhcngaaGreat.Knd
open Go.RowKit
set_option linter.unusedVariables false
set_option maxRecDepth 100000
set_option maxHeartbeats 16000000
def colZ (f:Int):Int:=if f=0 then 4096 else 1048576
def rowZ (f:Int):Int:=if f=0 then 4096 else 1
theorem columns_any (f d:Int)(w:World) :
  Calls Tryz.prog 112 #[.agg #[.int .i64 f,.int .i64 d]] w fun e w'=>e=.returned (.int .i64 (colZ f))/\Below w.heap.size w w':=by
 have hb:=bel1 w (.cells #[.int .i64 f,.int .i64 d] 23)
 by_cases h:f=0
 ·subst h
  go_enter Tryz.func112,Tryz.ntmps112
  go_wp2
  go_ret
  exact⟨rfl,hb⟩
 ·go_enter Tryz.func112,Tryz.ntmps112
  go_wp2
  go_ret
  exact⟨ret_int (by simp[colZ,h]),hb⟩
theorem rows_any (f d:Int)(w:World) :
  Calls Tryz.prog 113 #[.agg #[.int .i64 f,.int .i64 d]] w fun e w'=>e=.returned (.int .i64 (rowZ f))/\Below w.heap.size w w':=by
 have hb:=bel1 w (.cells #[.int .i64 f,.int .i64 d] 23)
 by_cases h:f=0
 ·subst h
  go_enter Tryz.func113,Tryz.ntmps113
  go_wp2
  go_ret
  exact⟨rfl,hb⟩
 ·go_enter Tryz.func113,Tryz.ntmps113
  go_wp2
  go_ret
  exact⟨ret_int (by simp[rowZ,h]),hb⟩
theorem only_any (n:Int)(w:World) :
  Calls Tryz.prog 114 #[.int .i64 n] w fun e w'=>e=.returned (.agg #[.int .i64 n,.int .i64 n])/\Below w.heap.size w w':=by
 go_enter Tryz.func114,Tryz.ntmps114
 go_wp2
 exact bodyPost_ret (v:=.agg #[.int .i64 n,.int .i64 n]) (by simp[results,Tryz.results114,go_sem]) rfl ⟨rfl,bel1 _ _⟩
def inZ (f d n:Int):Option (Int × Int) :=
 if ¬May f d then none else
 if n=0 then some (0,colZ f-1) else
 if n=1 then some (0,rowZ f-1) else
 if n=2 then some (0,3) else
 if n=3 then some (lowZ f d,lowZ f d) else
 if n=4 then some (highZ f d,highZ f d) else
 if n=5 then some (borderZ f d,borderZ f d) else none
def inV (f d n:Int):Value:=.tuple #[.agg #[.int .i64 ((inZ f d n).getD (0,0)).1,.int .i64 ((inZ f d n).getD (0,0)).2],.bool (inZ f d n).isSome]
theorem facts2 {W:World}{b:Nat}{t:TypeId}{x y:Value}(h:HasC W b t #[x,y]):W.cell? ⟨b,0,none⟩=some x/\W.cell? ⟨b,1,none⟩=some y/\W.frozen? ⟨b,0,none⟩=false/\W.frozen? ⟨b,1,none⟩=false :=
 ⟨h.cell 0 rfl,h.cell 1 rfl,h.frozen 0,h.frozen 1⟩
theorem stored2 {w w2:World}{b:Nat}(h:HasC w2 b 58 #[.int .i64 0,.int .i64 0])(hB:Below w.heap.size w w2)(hb:w.heap.size<=b)(x y:Int) :
  ((w2.setCell ⟨b,0,none⟩ (.int .i64 x)).setCell ⟨b,1,none⟩ (.int .i64 y)).cell? ⟨b,0,none⟩=some (.int .i64 x)/\((w2.setCell ⟨b,0,none⟩ (.int .i64 x)).setCell ⟨b,1,none⟩ (.int .i64 y)).cell? ⟨b,1,none⟩=some (.int .i64 y) /\
  Below w.heap.size w ((w2.setCell ⟨b,0,none⟩ (.int .i64 x)).setCell ⟨b,1,none⟩ (.int .i64 y)):=by
 have h3:=(h.set 0 (.int .i64 x)).set 1 (.int .i64 y)
 exact⟨h3.cell 0 rfl,h3.cell 1 rfl,(hB.setCell (p:=⟨b,0,none⟩) hb _).setCell (p:=⟨b,1,none⟩) hb _⟩
theorem input_bad (f d n:Int)(hm:¬May f d)(w:World) :
  Calls Tryz.prog 78 #[.agg #[.int .i64 f,.int .i64 d],.int .i64 n] w fun e w'=>e=.returned (inV f d n)/\Below w.heap.size w w':=by
 have HB1:=hide ((bel1 w (.cells #[.int .i64 f,.int .i64 d] 23)).alloc (by simp) (.cells #[.int .i64 0,.int .i64 0] 58))
 have hR:HasC ((w.alloc (.cells #[.int .i64 f,.int .i64 d] 23)).alloc (.cells #[.int .i64 0,.int .i64 0] 58)) (w.heap.size+1) 58 #[.int .i64 0,.int .i64 0]:=by
  have:=HasC.new (w.alloc (.cells #[.int .i64 f,.int .i64 d] 23)) 58 #[.int .i64 0,.int .i64 0]
  rwa[World.size_alloc] at this
 have HR1:=hide hR
 have HK1:=hide ((HasC.new w 23 #[.int .i64 f,.int .i64 d]).alloc (.cells #[.int .i64 0,.int .i64 0] 58))
 clear hR
 have e:inV f d n=.tuple #[.agg #[.int .i64 (0),.int .i64 (0)],.bool false]:=by simp[inV,inZ,hm]
 rw[e]
 clear e
 go_enter Tryz.func78,Tryz.ntmps78
 go_wp2_with (first
  | (go_at_call 53;refine(check_bad _ _ _ hm).mono ?_;rintro e w2 ⟨rfl,hb2⟩;have HR2:=hide (HR1.out.below hb2);have HK2:=hide (HK1.out.below hb2);have HB2:=hide (bel HB1.out hb2);clear hb2;obtain⟨s2,t2,u2,v2⟩:=facts2 HR2.out;obtain⟨x2,y2,-,-⟩:=facts2 HK2.out))
 obtain⟨c0,c1,hB⟩:=stored2 HR2.out HB2.out (by omega) (0) (0)
 exact bodyPost_ret (v:=.tuple #[.agg #[.int .i64 (0),.int .i64 (0)],.bool false]) (by simp[results,Tryz.results78,go_sem,c0,c1]) rfl ⟨rfl,hB⟩
theorem input0 (f d:Int)(hm:May f d)(w:World) :
  Calls Tryz.prog 78 #[.agg #[.int .i64 f,.int .i64 d],.int .i64 0] w fun e w'=>e=.returned (inV f d 0)/\Below w.heap.size w w':=by
 have HB1:=hide ((bel1 w (.cells #[.int .i64 f,.int .i64 d] 23)).alloc (by simp) (.cells #[.int .i64 0,.int .i64 0] 58))
 have hR:HasC ((w.alloc (.cells #[.int .i64 f,.int .i64 d] 23)).alloc (.cells #[.int .i64 0,.int .i64 0] 58)) (w.heap.size+1) 58 #[.int .i64 0,.int .i64 0]:=by
  have:=HasC.new (w.alloc (.cells #[.int .i64 f,.int .i64 d] 23)) 58 #[.int .i64 0,.int .i64 0]
  rwa[World.size_alloc] at this
 have HR1:=hide hR
 have HK1:=hide ((HasC.new w 23 #[.int .i64 f,.int .i64 d]).alloc (.cells #[.int .i64 0,.int .i64 0] 58))
 clear hR
 have e:inV f d 0=.tuple #[.agg #[.int .i64 (0),.int .i64 (colZ f-1)],.bool true]:=by simp[inV,inZ,hm]
 rw[e]
 clear e
 obtain⟨p1,p2⟩:0<=colZ f/\colZ f<=1048576:=by unfold colZ;split <;> omega
 go_enter Tryz.func78,Tryz.ntmps78
 go_wp2_with (first
  | (go_at_call 53;refine(check_ok _ _ _ hm).mono ?_;rintro e w2 ⟨rfl,hb2⟩;have HR2:=hide (HR1.out.below hb2);have HK2:=hide (HK1.out.below hb2);have HB2:=hide (bel HB1.out hb2);clear hb2;obtain⟨s2,t2,u2,v2⟩:=facts2 HR2.out;obtain⟨x2,y2,-,-⟩:=facts2 HK2.out)
  | (go_at_call 112;refine(columns_any _ _ _).mono ?_;rintro e w3 ⟨rfl,hb3⟩;have HR3:=hide (HR2.out.below hb3);have HK3:=hide (HK2.out.below hb3);have HB3:=hide (bel HB2.out hb3);clear hb3;obtain⟨s3,t3,u3,v3⟩:=facts2 HR3.out;obtain⟨x3,y3,-,-⟩:=facts2 HK3.out))
 obtain⟨c0,c1,hB⟩:=stored2 HR3.out HB3.out (by omega) (0) (colZ f-1)
 exact bodyPost_ret (v:=.tuple #[.agg #[.int .i64 (0),.int .i64 (colZ f-1)],.bool true]) (by simp[results,Tryz.results78,go_sem,c0,c1]) rfl ⟨rfl,hB⟩
theorem input1 (f d:Int)(hm:May f d)(w:World) :
  Calls Tryz.prog 78 #[.agg #[.int .i64 f,.int .i64 d],.int .i64 1] w fun e w'=>e=.returned (inV f d 1)/\Below w.heap.size w w':=by
 have HB1:=hide ((bel1 w (.cells #[.int .i64 f,.int .i64 d] 23)).alloc (by simp) (.cells #[.int .i64 0,.int .i64 0] 58))
 have hR:HasC ((w.alloc (.cells #[.int .i64 f,.int .i64 d] 23)).alloc (.cells #[.int .i64 0,.int .i64 0] 58)) (w.heap.size+1) 58 #[.int .i64 0,.int .i64 0]:=by
  have:=HasC.new (w.alloc (.cells #[.int .i64 f,.int .i64 d] 23)) 58 #[.int .i64 0,.int .i64 0]
  rwa[World.size_alloc] at this
 have HR1:=hide hR
 have HK1:=hide ((HasC.new w 23 #[.int .i64 f,.int .i64 d]).alloc (.cells #[.int .i64 0,.int .i64 0] 58))
 clear hR
 have e:inV f d 1=.tuple #[.agg #[.int .i64 (0),.int .i64 (rowZ f-1)],.bool true]:=by simp[inV,inZ,hm]
 rw[e]
 clear e
 obtain⟨p1,p2⟩:0<=rowZ f/\rowZ f<=1048576:=by unfold rowZ;split <;> omega
 go_enter Tryz.func78,Tryz.ntmps78
 go_wp2_with (first
  | (go_at_call 53;refine(check_ok _ _ _ hm).mono ?_;rintro e w2 ⟨rfl,hb2⟩;have HR2:=hide (HR1.out.below hb2);have HK2:=hide (HK1.out.below hb2);have HB2:=hide (bel HB1.out hb2);clear hb2;obtain⟨s2,t2,u2,v2⟩:=facts2 HR2.out;obtain⟨x2,y2,-,-⟩:=facts2 HK2.out)
  | (go_at_call 113;refine(rows_any _ _ _).mono ?_;rintro e w3 ⟨rfl,hb3⟩;have HR3:=hide (HR2.out.below hb3);have HK3:=hide (HK2.out.below hb3);have HB3:=hide (bel HB2.out hb3);clear hb3;obtain⟨s3,t3,u3,v3⟩:=facts2 HR3.out;obtain⟨x3,y3,-,-⟩:=facts2 HK3.out))
 obtain⟨c0,c1,hB⟩:=stored2 HR3.out HB3.out (by omega) (0) (rowZ f-1)
 exact bodyPost_ret (v:=.tuple #[.agg #[.int .i64 (0),.int .i64 (rowZ f-1)],.bool true]) (by simp[results,Tryz.results78,go_sem,c0,c1]) rfl ⟨rfl,hB⟩
theorem input2 (f d:Int)(hm:May f d)(w:World) :
  Calls Tryz.prog 78 #[.agg #[.int .i64 f,.int .i64 d],.int .i64 2] w fun e w'=>e=.returned (inV f d 2)/\Below w.heap.size w w':=by
 have HB1:=hide ((bel1 w (.cells #[.int .i64 f,.int .i64 d] 23)).alloc (by simp) (.cells #[.int .i64 0,.int .i64 0] 58))
 have hR:HasC ((w.alloc (.cells #[.int .i64 f,.int .i64 d] 23)).alloc (.cells #[.int .i64 0,.int .i64 0] 58)) (w.heap.size+1) 58 #[.int .i64 0,.int .i64 0]:=by
  have:=HasC.new (w.alloc (.cells #[.int .i64 f,.int .i64 d] 23)) 58 #[.int .i64 0,.int .i64 0]
  rwa[World.size_alloc] at this
 have HR1:=hide hR
 have HK1:=hide ((HasC.new w 23 #[.int .i64 f,.int .i64 d]).alloc (.cells #[.int .i64 0,.int .i64 0] 58))
 clear hR
 have e:inV f d 2=.tuple #[.agg #[.int .i64 (0),.int .i64 (3)],.bool true]:=by simp[inV,inZ,hm]
 rw[e]
 clear e
 go_enter Tryz.func78,Tryz.ntmps78
 go_wp2_with (first
  | (go_at_call 53;refine(check_ok _ _ _ hm).mono ?_;rintro e w2 ⟨rfl,hb2⟩;have HR2:=hide (HR1.out.below hb2);have HK2:=hide (HK1.out.below hb2);have HB2:=hide (bel HB1.out hb2);clear hb2;obtain⟨s2,t2,u2,v2⟩:=facts2 HR2.out;obtain⟨x2,y2,-,-⟩:=facts2 HK2.out))
 obtain⟨c0,c1,hB⟩:=stored2 HR2.out HB2.out (by omega) (0) (3)
 exact bodyPost_ret (v:=.tuple #[.agg #[.int .i64 (0),.int .i64 (3)],.bool true]) (by simp[results,Tryz.results78,go_sem,c0,c1]) rfl ⟨rfl,hB⟩
theorem input3 (f d:Int)(hm:May f d)(w:World) :
  Calls Tryz.prog 78 #[.agg #[.int .i64 f,.int .i64 d],.int .i64 3] w fun e w'=>e=.returned (inV f d 3)/\Below w.heap.size w w':=by
 have HB1:=hide ((bel1 w (.cells #[.int .i64 f,.int .i64 d] 23)).alloc (by simp) (.cells #[.int .i64 0,.int .i64 0] 58))
 have hR:HasC ((w.alloc (.cells #[.int .i64 f,.int .i64 d] 23)).alloc (.cells #[.int .i64 0,.int .i64 0] 58)) (w.heap.size+1) 58 #[.int .i64 0,.int .i64 0]:=by
  have:=HasC.new (w.alloc (.cells #[.int .i64 f,.int .i64 d] 23)) 58 #[.int .i64 0,.int .i64 0]
  rwa[World.size_alloc] at this
 have HR1:=hide hR
 have HK1:=hide ((HasC.new w 23 #[.int .i64 f,.int .i64 d]).alloc (.cells #[.int .i64 0,.int .i64 0] 58))
 clear hR
 have e:inV f d 3=.tuple #[.agg #[.int .i64 (lowZ f d),.int .i64 (lowZ f d)],.bool true]:=by simp[inV,inZ,hm]
 rw[e]
 clear e
 go_enter Tryz.func78,Tryz.ntmps78
 go_wp2_with (first
  | (go_at_call 53;refine(check_ok _ _ _ hm).mono ?_;rintro e w2 ⟨rfl,hb2⟩;have HR2:=hide (HR1.out.below hb2);have HK2:=hide (HK1.out.below hb2);have HB2:=hide (bel HB1.out hb2);clear hb2;obtain⟨s2,t2,u2,v2⟩:=facts2 HR2.out;obtain⟨x2,y2,-,-⟩:=facts2 HK2.out)
  | (go_at_call 27;refine(low_any _ _ _).mono ?_;rintro e w3 ⟨rfl,hb3⟩;have HR3:=hide (HR2.out.below hb3);have HK3:=hide (HK2.out.below hb3);have HB3:=hide (bel HB2.out hb3);clear hb3;obtain⟨s3,t3,u3,v3⟩:=facts2 HR3.out;obtain⟨x3,y3,-,-⟩:=facts2 HK3.out)
  | (go_at_call 114;refine(only_any _ _).mono ?_;rintro e w4 ⟨rfl,hb4⟩;have HR4:=hide (HR3.out.below hb4);have HK4:=hide (HK3.out.below hb4);have HB4:=hide (bel HB3.out hb4);clear hb4;obtain⟨s4,t4,u4,v4⟩:=facts2 HR4.out;obtain⟨x4,y4,-,-⟩:=facts2 HK4.out))
 obtain⟨c0,c1,hB⟩:=stored2 HR4.out HB4.out (by omega) (lowZ f d) (lowZ f d)
 exact bodyPost_ret (v:=.tuple #[.agg #[.int .i64 (lowZ f d),.int .i64 (lowZ f d)],.bool true]) (by simp[results,Tryz.results78,go_sem,c0,c1]) rfl ⟨rfl,hB⟩
theorem input4 (f d:Int)(hm:May f d)(w:World) :
  Calls Tryz.prog 78 #[.agg #[.int .i64 f,.int .i64 d],.int .i64 4] w fun e w'=>e=.returned (inV f d 4)/\Below w.heap.size w w':=by
 have HB1:=hide ((bel1 w (.cells #[.int .i64 f,.int .i64 d] 23)).alloc (by simp) (.cells #[.int .i64 0,.int .i64 0] 58))
 have hR:HasC ((w.alloc (.cells #[.int .i64 f,.int .i64 d] 23)).alloc (.cells #[.int .i64 0,.int .i64 0] 58)) (w.heap.size+1) 58 #[.int .i64 0,.int .i64 0]:=by
  have:=HasC.new (w.alloc (.cells #[.int .i64 f,.int .i64 d] 23)) 58 #[.int .i64 0,.int .i64 0]
  rwa[World.size_alloc] at this
 have HR1:=hide hR
 have HK1:=hide ((HasC.new w 23 #[.int .i64 f,.int .i64 d]).alloc (.cells #[.int .i64 0,.int .i64 0] 58))
 clear hR
 have e:inV f d 4=.tuple #[.agg #[.int .i64 (highZ f d),.int .i64 (highZ f d)],.bool true]:=by simp[inV,inZ,hm]
 rw[e]
 clear e
 go_enter Tryz.func78,Tryz.ntmps78
 go_wp2_with (first
  | (go_at_call 53;refine(check_ok _ _ _ hm).mono ?_;rintro e w2 ⟨rfl,hb2⟩;have HR2:=hide (HR1.out.below hb2);have HK2:=hide (HK1.out.below hb2);have HB2:=hide (bel HB1.out hb2);clear hb2;obtain⟨s2,t2,u2,v2⟩:=facts2 HR2.out;obtain⟨x2,y2,-,-⟩:=facts2 HK2.out)
  | (go_at_call 28;refine(high_any _ _ _).mono ?_;rintro e w3 ⟨rfl,hb3⟩;have HR3:=hide (HR2.out.below hb3);have HK3:=hide (HK2.out.below hb3);have HB3:=hide (bel HB2.out hb3);clear hb3;obtain⟨s3,t3,u3,v3⟩:=facts2 HR3.out;obtain⟨x3,y3,-,-⟩:=facts2 HK3.out)
  | (go_at_call 114;refine(only_any _ _).mono ?_;rintro e w4 ⟨rfl,hb4⟩;have HR4:=hide (HR3.out.below hb4);have HK4:=hide (HK3.out.below hb4);have HB4:=hide (bel HB3.out hb4);clear hb4;obtain⟨s4,t4,u4,v4⟩:=facts2 HR4.out;obtain⟨x4,y4,-,-⟩:=facts2 HK4.out))
 obtain⟨c0,c1,hB⟩:=stored2 HR4.out HB4.out (by omega) (highZ f d) (highZ f d)
 exact bodyPost_ret (v:=.tuple #[.agg #[.int .i64 (highZ f d),.int .i64 (highZ f d)],.bool true]) (by simp[results,Tryz.results78,go_sem,c0,c1]) rfl ⟨rfl,hB⟩
theorem input5 (f d:Int)(hm:May f d)(w:World) :
  Calls Tryz.prog 78 #[.agg #[.int .i64 f,.int .i64 d],.int .i64 5] w fun e w'=>e=.returned (inV f d 5)/\Below w.heap.size w w':=by
 have HB1:=hide ((bel1 w (.cells #[.int .i64 f,.int .i64 d] 23)).alloc (by simp) (.cells #[.int .i64 0,.int .i64 0] 58))
 have hR:HasC ((w.alloc (.cells #[.int .i64 f,.int .i64 d] 23)).alloc (.cells #[.int .i64 0,.int .i64 0] 58)) (w.heap.size+1) 58 #[.int .i64 0,.int .i64 0]:=by
  have:=HasC.new (w.alloc (.cells #[.int .i64 f,.int .i64 d] 23)) 58 #[.int .i64 0,.int .i64 0]
  rwa[World.size_alloc] at this
 have HR1:=hide hR
 have HK1:=hide ((HasC.new w 23 #[.int .i64 f,.int .i64 d]).alloc (.cells #[.int .i64 0,.int .i64 0] 58))
 clear hR
 have e:inV f d 5=.tuple #[.agg #[.int .i64 (borderZ f d),.int .i64 (borderZ f d)],.bool true]:=by simp[inV,inZ,hm]
 rw[e]
 clear e
 go_enter Tryz.func78,Tryz.ntmps78
 go_wp2_with (first
  | (go_at_call 53;refine(check_ok _ _ _ hm).mono ?_;rintro e w2 ⟨rfl,hb2⟩;have HR2:=hide (HR1.out.below hb2);have HK2:=hide (HK1.out.below hb2);have HB2:=hide (bel HB1.out hb2);clear hb2;obtain⟨s2,t2,u2,v2⟩:=facts2 HR2.out;obtain⟨x2,y2,-,-⟩:=facts2 HK2.out)
  | (go_at_call 29;refine(border_any _ _ _).mono ?_;rintro e w3 ⟨rfl,hb3⟩;have HR3:=hide (HR2.out.below hb3);have HK3:=hide (HK2.out.below hb3);have HB3:=hide (bel HB2.out hb3);clear hb3;obtain⟨s3,t3,u3,v3⟩:=facts2 HR3.out;obtain⟨x3,y3,-,-⟩:=facts2 HK3.out)
  | (go_at_call 114;refine(only_any _ _).mono ?_;rintro e w4 ⟨rfl,hb4⟩;have HR4:=hide (HR3.out.below hb4);have HK4:=hide (HK3.out.below hb4);have HB4:=hide (bel HB3.out hb4);clear hb4;obtain⟨s4,t4,u4,v4⟩:=facts2 HR4.out;obtain⟨x4,y4,-,-⟩:=facts2 HK4.out))
 obtain⟨c0,c1,hB⟩:=stored2 HR4.out HB4.out (by omega) (borderZ f d) (borderZ f d)
 exact bodyPost_ret (v:=.tuple #[.agg #[.int .i64 (borderZ f d),.int .i64 (borderZ f d)],.bool true]) (by simp[results,Tryz.results78,go_sem,c0,c1]) rfl ⟨rfl,hB⟩
theorem input6 (f d n:Int)(hm:May f d)(h0:n≠0)(h1:n≠1)(h2:n≠2)(h3:n≠3)(h4:n≠4)(h5:n≠5)(w:World) :
  Calls Tryz.prog 78 #[.agg #[.int .i64 f,.int .i64 d],.int .i64 n] w fun e w'=>e=.returned (inV f d n)/\Below w.heap.size w w':=by
 have HB1:=hide ((bel1 w (.cells #[.int .i64 f,.int .i64 d] 23)).alloc (by simp) (.cells #[.int .i64 0,.int .i64 0] 58))
 have hR:HasC ((w.alloc (.cells #[.int .i64 f,.int .i64 d] 23)).alloc (.cells #[.int .i64 0,.int .i64 0] 58)) (w.heap.size+1) 58 #[.int .i64 0,.int .i64 0]:=by
  have:=HasC.new (w.alloc (.cells #[.int .i64 f,.int .i64 d] 23)) 58 #[.int .i64 0,.int .i64 0]
  rwa[World.size_alloc] at this
 have HR1:=hide hR
 have HK1:=hide ((HasC.new w 23 #[.int .i64 f,.int .i64 d]).alloc (.cells #[.int .i64 0,.int .i64 0] 58))
 clear hR
 have e:inV f d n=.tuple #[.agg #[.int .i64 (0),.int .i64 (0)],.bool false]:=by simp[inV,inZ,hm,h0,h1,h2,h3,h4,h5]
 rw[e]
 clear e
 go_enter Tryz.func78,Tryz.ntmps78
 go_wp2_with (first
  | (go_at_call 53;refine(check_ok _ _ _ hm).mono ?_;rintro e w2 ⟨rfl,hb2⟩;have HR2:=hide (HR1.out.below hb2);have HK2:=hide (HK1.out.below hb2);have HB2:=hide (bel HB1.out hb2);clear hb2;obtain⟨s2,t2,u2,v2⟩:=facts2 HR2.out;obtain⟨x2,y2,-,-⟩:=facts2 HK2.out))
 obtain⟨c0,c1,hB⟩:=stored2 HR2.out HB2.out (by omega) (0) (0)
 exact bodyPost_ret (v:=.tuple #[.agg #[.int .i64 (0),.int .i64 (0)],.bool false]) (by simp[results,Tryz.results78,go_sem,c0,c1]) rfl ⟨rfl,hB⟩
theorem input_any (f d n:Int)(w:World) :
  Calls Tryz.prog 78 #[.agg #[.int .i64 f,.int .i64 d],.int .i64 n] w fun e w'=>e=.returned (inV f d n)/\Below w.heap.size w w':=by
 by_cases hm:May f d
 ·by_cases h0:n=0
  ·subst h0;exact input0 f d hm w
  by_cases h1:n=1
  ·subst h1;exact input1 f d hm w
  by_cases h2:n=2
  ·subst h2;exact input2 f d hm w
  by_cases h3:n=3
  ·subst h3;exact input3 f d hm w
  by_cases h4:n=4
  ·subst h4;exact input4 f d hm w
  by_cases h5:n=5
  ·subst h5;exact input5 f d hm w
  exact input6 f d n hm h0 h1 h2 h3 h4 h5 w
 ·exact input_bad f d n hm w
end Go.Proofs.YtimdcmponhcngaaGreat.Knd
