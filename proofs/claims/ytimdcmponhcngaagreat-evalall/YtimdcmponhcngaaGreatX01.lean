import Derived.Laws.AppendOwn
import Derived.Laws.OwnMore
import Derived.OwnWalk
import Derived.RangeFuncBox
import Derived.RangeFuncNested
import Derived.RangeFuncBound
import Derived.RangeFuncCalls
import Derived.RangeFuncLeaves
import Derived.Shelf.Abstract
import Derived.Shelf.RegionOpen
import Derived.OwnWalkIn
import Derived.TacticsInMore
import Derived.LoopNIn
import Derived.LoopIn
import Derived.Test.YtimdcmponhcngaaGreatX00
namespace Go.Proofs.YtimdcmponhcngaaGreat.Knd
open Go.RowKit
set_option linter.unusedVariables false
set_option maxRecDepth 100000
set_option maxHeartbeats 16000000
structure Blk where
 back:Int
 coords:Int
 y0:Int
 y1:Int
 x0:Int
 x1:Int
def Blk.cells (b:Blk):List Value:=[.int .i64 b.back,.int .i64 b.coords,.int .i64 b.y0,.int .i64 b.y1,.int .i64 b.x0,.int .i64 b.x1]
def bcells (l:List Blk):List Value:=l.flatMap Blk.cells
theorem bcells_snoc (l:List Blk)(b:Blk):bcells (l++[b])=bcells l++b.cells:=by simp[bcells]
def imageUp (k:Nat):List Blk:=[⟨0,2,-2,-1,-3,3⟩,⟨0,2,0,0,-3,-1⟩]++(List.range k).map fun j=>⟨(j:Int)+1,2,-1,1,-1,1⟩
def soundUp (k:Nat):List Blk:=[⟨0,1,0,0,-16,-1⟩]++(List.range k).map fun j=>⟨(j:Int)+1,1,0,0,-4,0⟩
def imageB:List Blk:=imageUp 3
def soundB:List Blk:=soundUp 3
theorem imageUp_succ (k:Nat):imageUp (k+1)=imageUp k++[⟨(k:Int)+1,2,-1,1,-1,1⟩]:=by simp[imageUp,List.range_succ]
theorem soundUp_succ (k:Nat):soundUp (k+1)=soundUp k++[⟨(k:Int)+1,1,0,0,-4,0⟩]:=by simp[soundUp,List.range_succ]
def blks (f d:Int):List Blk:=if May f d then(if f=0 then imageB else soundB) else[]
theorem Tryz.info130:(Tryz.prog.info? 130).map (fun i=>(i.zero,i.size,i.bytes))=some (some (.agg #[.int .i64 0,.int .i64 0,.int .i64 0,.int .i64 0,.int .i64 0,.int .i64 0]),6,48):=by kernel_rfl
theorem info_parts {P:Program}{e:TypeId}{z:Value}{s b:Nat}(h:(P.info? e).map (fun i=>(i.zero,i.size,i.bytes))=some (some z,s,b)) :
  ∃ i,P.info? e=some i/\i.zero=some z/\i.size=s/\i.bytes=b:=by
 cases hi:P.info? e with
 | none=>rw[hi] at h;cases h
 | some i=>rw[hi] at h;simp at h;exact⟨i,rfl,h.1,h.2.1,h.2.2⟩
theorem cells_new (w:World)(cs:Array Value)(t:TypeId):∀ j u,cs.toList[j]?=some u->(w.alloc (.cells cs t)).cell? ((⟨w.heap.size,0,none⟩:Addr).add j)=some u:=by
 intro j u h
 have hadd:(⟨w.heap.size,0,none⟩:Addr).add j=⟨w.heap.size,j,none⟩:=by unfold Addr.add;split <;> simp_all
 rw[hadd,cell_of_row _ _ j cs t (0,0) (heap_alloc_new w _)]
 simpa using h
theorem below_append {w wr w1:World}{e:TypeId}{s n:Nat}{v:Value}{xs:List Value}{o:Obj}(hB:Below w.heap.size w wr)(hr:wr.ownsRow w.heap.size e s v n xs)(hg:(wr.alloc o).grownBy w1 v.ownBlock):Below w.heap.size w w1 :=
 (hB.alloc hB.size o).grown hg (by have:=hB.size;simp;omega) (fun k hk=>(hr.lt k hk).1)
theorem other_append {w wr w1:World}{e t:TypeId}{s n A:Nat}{v:Value}{xs:List Value}{o:Obj}{cs:Array Value}{fr:Nat × Nat}(hA:wr.heap[A]?=some (.cells cs t fr))(hte:t≠e)(hr:wr.ownsRow w.heap.size e s v n xs)(hg:(wr.alloc o).grownBy w1 v.ownBlock):w1.heap[A]?=some (.cells cs t fr):=by
 have hlt:A < wr.heap.size:=(Array.getElem?_eq_some_iff.1 hA).1
 have h1:(wr.alloc o).heap[A]?=some (.cells cs t fr):=(Below.heap_alloc wr o A hlt).trans hA
 refine(hg.block A (by simp;omega) (fun h=>?_)).trans h1
 rcases hr.2 with⟨rfl,_⟩|⟨g,cap,cur,rfl,_,hgg,_⟩
 ·simp[Value.ownBlock] at h
 ·simp[Value.ownBlock] at h
  subst h
  rw[hA] at hgg
  simp at hgg
  exact hte hgg.2.1
theorem blocks_sound (d:Int)(w:World)(hm:May 1 d) :
  Calls Tryz.prog 84 #[.agg #[.int .i64 1,.int .i64 d]] w fun e w'=>∃ v,e=.returned v/\w'.ownsRow w.heap.size 130 6 v 4 (bcells soundB)/\Below w.heap.size w w':=by
 obtain⟨i0,hi,hz0,hz1,hz2⟩:=info_parts Tryz.info130
 have hb:=bel1 w (.cells #[.int .i64 1,.int .i64 d] 23)
 go_enter Tryz.func84,Tryz.ntmps84
 go_wp2_with (go_at_call 53;refine(check_ok _ _ _ hm).mono ?_;rintro e w2 ⟨rfl,hb2⟩;obtain⟨hc2,hf2⟩:=bcell hb2)
 have HB2:=hide ((bel hb hb2).alloc (bel hb hb2).size (.cells #[.int .i64 0,.int .i64 1,.int .i64 0,.int .i64 0,.int .i64 (-16),.int .i64 (-1)] 130))
 have hr0:(w2.alloc (.cells #[.int .i64 0,.int .i64 1,.int .i64 0,.int .i64 0,.int .i64 (-16),.int .i64 (-1)] 130)).ownsRow w.heap.size 130 6 (.slice (some ⟨w2.heap.size,0,none⟩) 1 1) 1 (bcells (soundUp 0)) :=
  World.ownsRow_lit w2 #[.int .i64 0,.int .i64 1,.int .i64 0,.int .i64 0,.int .i64 (-16),.int .i64 (-1)] 1 (bel hb hb2).size (by decide) rfl
 have HR:=hide hr0
 clear hr0 hb2 hc2 hf2 hb
 go_loopw [3,4] (fun v i wr=>∃ k:Nat,k<=3/\i=.int .i64 ((k:Int)+1)/\(∃ g cap,v=.slice (some ⟨g,0,none⟩) (k+1) cap)/\Hid (wr.ownsRow w.heap.size 130 6 v (k+1) (bcells (soundUp k)))/\Hid (Below w.heap.size w wr)) (fun _ i _=>(4-intOf i).toNat)
 case atStart=>exact⟨0,by omega,rfl,⟨_,_,rfl⟩,HR,HB2⟩
 case round =>
  obtain⟨k,hk,rfl,⟨g,cap,rfl⟩,HR,HB⟩:=hrel
  by_cases hlt:k < 3
  ·go_wp2_with (at_builtin;refine wpList_append_own _ rfl _ _ 127 rfl w.heap.size 130 i0 _ 6 48 Tryz.underlying127 hi hz0 hz1 hz2 rfl (by decide) _ _ _ rfl (HR.out.alloc _) ⟨wr.heap.size,0,none⟩ 1 1 (Blk.cells ⟨(k:Int)+1,1,0,0,-4,0⟩) rfl rfl (cells_new _ _ _) (by simp[Blk.cells,Value.oneCell']) (by unfold maxLen;omega) (by omega) (by have:=HB.out.size;simp;omega) ?_;intro v' w1 hown' hgrow _;obtain⟨g',cap',rfl⟩:=ownsRow_succ hown')
   go_roundw
   case rel=>exact⟨k+1,by omega,by go_num,⟨_,_,rfl⟩,hide (by rw[soundUp_succ,bcells_snoc];exact hown'),hide (below_append HB.out HR.out hgrow)⟩
   case measure=>simp[intOf];omega
  ·obtain rfl:k=3:=by omega
   go_wp2
   go_ret
   exact⟨_,rfl,HR.out,HB.out⟩
theorem blocks_image (d:Int)(w:World)(hm:May 0 d) :
  Calls Tryz.prog 84 #[.agg #[.int .i64 0,.int .i64 d]] w fun e w'=>∃ v,e=.returned v/\w'.ownsRow w.heap.size 130 6 v 5 (bcells imageB)/\Below w.heap.size w w':=by
 obtain⟨i0,hi,hz0,hz1,hz2⟩:=info_parts Tryz.info130
 have hb:=bel1 w (.cells #[.int .i64 0,.int .i64 d] 23)
 go_enter Tryz.func84,Tryz.ntmps84
 go_wp2_with (go_at_call 53;refine(check_ok _ _ _ hm).mono ?_;rintro e w2 ⟨rfl,hb2⟩;obtain⟨hc2,hf2⟩:=bcell hb2)
 have HB1:=hide ((bel hb hb2).alloc (bel hb hb2).size (.cells #[.int .i64 0,.int .i64 2,.int .i64 (-2),.int .i64 (-1),.int .i64 (-3),.int .i64 3,.int .i64 0,.int .i64 2,.int .i64 0,.int .i64 0,.int .i64 (-3),.int .i64 (-1)] 130))
 have HB2:=hide (HB1.out.alloc HB1.out.size (.cells #[.int .i64 (-1),.int .i64 1] 58))
 have hr0:(w2.alloc (.cells #[.int .i64 0,.int .i64 2,.int .i64 (-2),.int .i64 (-1),.int .i64 (-3),.int .i64 3,.int .i64 0,.int .i64 2,.int .i64 0,.int .i64 0,.int .i64 (-3),.int .i64 (-1)] 130)).ownsRow w.heap.size 130 6 (.slice (some ⟨w2.heap.size,0,none⟩) 2 2) 2 (bcells (imageUp 0)) :=
  World.ownsRow_lit w2 #[.int .i64 0,.int .i64 2,.int .i64 (-2),.int .i64 (-1),.int .i64 (-3),.int .i64 3,.int .i64 0,.int .i64 2,.int .i64 0,.int .i64 0,.int .i64 (-3),.int .i64 (-1)] 2 (bel hb hb2).size (by decide) rfl
 have HR:=hide (hr0.alloc (.cells #[.int .i64 (-1),.int .i64 1] 58))
 have HA:((w2.alloc (.cells #[.int .i64 0,.int .i64 2,.int .i64 (-2),.int .i64 (-1),.int .i64 (-3),.int .i64 3,.int .i64 0,.int .i64 2,.int .i64 0,.int .i64 0,.int .i64 (-3),.int .i64 (-1)] 130)).alloc (.cells #[.int .i64 (-1),.int .i64 1] 58)).heap[w2.heap.size+1]?=some (.cells #[.int .i64 (-1),.int .i64 1] 58 (0,0)):=by
  have:=heap_alloc_new (w2.alloc (.cells #[.int .i64 0,.int .i64 2,.int .i64 (-2),.int .i64 (-1),.int .i64 (-3),.int .i64 3,.int .i64 0,.int .i64 2,.int .i64 0,.int .i64 0,.int .i64 (-3),.int .i64 (-1)] 130)) (.cells #[.int .i64 (-1),.int .i64 1] 58)
  rwa[World.size_alloc] at this
 have HA:=hide HA
 clear hr0 hb2 hc2 hf2 hb
 go_loopw [5,7] (fun v i wr=>∃ k:Nat,k<=3/\i=.int .i64 ((k:Int)+1)/\(∃ g cap,v=.slice (some ⟨g,0,none⟩) (k+2) cap)/\Hid (wr.ownsRow w.heap.size 130 6 v (k+2) (bcells (imageUp k)))/\Hid (Below w.heap.size w wr)/\Hid (wr.heap[w2.heap.size+1]?=some (.cells #[.int .i64 (-1),.int .i64 1] 58 (0,0)))) (fun _ i _=>(4-intOf i).toNat)
 case atStart=>exact⟨0,by omega,rfl,⟨_,_,rfl⟩,HR,HB2,HA⟩
 case round =>
  obtain⟨k,hk,rfl,⟨g,cap,rfl⟩,HR,HB,HA⟩:=hrel
  have c0:=cell_of_row wr (w2.heap.size+1) 0 _ 58 (0,0) HA.out
  have c1:=cell_of_row wr (w2.heap.size+1) 1 _ 58 (0,0) HA.out
  simp at c0 c1
  by_cases hlt:k < 3
  ·go_wp2_with (at_builtin;refine wpList_append_own _ rfl _ _ 127 rfl w.heap.size 130 i0 _ 6 48 Tryz.underlying127 hi hz0 hz1 hz2 rfl (by decide) _ _ _ rfl (HR.out.alloc _) ⟨wr.heap.size,0,none⟩ 1 1 (Blk.cells ⟨(k:Int)+1,2,-1,1,-1,1⟩) rfl rfl (cells_new _ _ _) (by simp[Blk.cells,Value.oneCell']) (by unfold maxLen;omega) (by omega) (by have:=HB.out.size;simp;omega) ?_;intro v' w1 hown' hgrow _;obtain⟨g',cap',rfl⟩:=ownsRow_succ hown')
   go_roundw
   case rel=>exact⟨k+1,by omega,by go_num,⟨_,_,rfl⟩,hide (by rw[imageUp_succ,bcells_snoc];exact hown'),hide (below_append HB.out HR.out hgrow),hide (other_append HA.out (by decide) HR.out hgrow)⟩
   case measure=>simp[intOf];omega
  ·obtain rfl:k=3:=by omega
   go_wp2
   go_ret
   exact⟨_,rfl,HR.out,HB.out⟩
theorem blocks_none (f d:Int)(w:World)(hm:¬May f d) :
  Calls Tryz.prog 84 #[.agg #[.int .i64 f,.int .i64 d]] w fun e w'=>e=.returned (.slice none 0 0)/\Below w.heap.size w w':=by
 have hb:=bel1 w (.cells #[.int .i64 f,.int .i64 d] 23)
 go_enter Tryz.func84,Tryz.ntmps84
 go_wp2_with (go_at_call 53;refine(check_bad _ _ _ hm).mono ?_;rintro e w2 ⟨rfl,hb2⟩;obtain⟨hc2,hf2⟩:=bcell hb2)
 go_ret
 exact⟨rfl,bel hb hb2⟩
theorem blocks_any (f d:Int)(w:World) :
  Calls Tryz.prog 84 #[.agg #[.int .i64 f,.int .i64 d]] w fun e w'=>∃ v,e=.returned v/\w'.ownsRow w.heap.size 130 6 v (blks f d).length (bcells (blks f d))/\Below w.heap.size w w':=by
 rcases kind3 f d with⟨hm,rfl⟩|⟨hm,rfl⟩|hm
 ·have e:blks 0 d=imageB:=by simp[blks,hm]
  rw[e]
  exact blocks_image d w hm
 ·have e:blks 1 d=soundB:=by simp[blks,hm]
  rw[e]
  exact blocks_sound d w hm
 ·have e:blks f d=[]:=by simp[blks,hm]
  rw[e]
  exact(blocks_none f d w hm).mono fun e w' ⟨he,hb⟩=>⟨_,he,World.ownsRow_nil _ _ _ _,hb⟩
structure Plc where
 back:Int
 coords:Int
 x:Int
 y:Int
 deriving DecidableEq
def Blk.rows (b:Blk):Nat:=(b.y1+1-b.y0).toNat
def Blk.cols (b:Blk):Nat:=(b.x1+1-b.x0).toNat
def Blk.pls (b:Blk):List Plc:=(List.range b.rows).flatMap fun(t:Nat)=>(List.range b.cols).map fun(s:Nat)=>(⟨b.back,b.coords,b.x0+(s:Int),b.y0+(t:Int)⟩:Plc)
def plsAll (l:List Blk):List Plc:=l.flatMap Blk.pls
def cnt (l:List Blk)(j:Nat):Nat:=(plsAll (l.take j)).length
def plcs (f d:Int):List Plc:=plsAll (blks f d)
theorem range_flat_len (n m:Nat)(g:Nat->List Plc)(h:∀ t,(g t).length=m):((List.range n).flatMap g).length=n*m:=by
 induction n with
 | zero=>simp
 | succ n ih=>rw[List.range_succ,List.flatMap_append,List.length_append,ih];simp[h,Nat.succ_mul]
theorem range_flat_at (n m:Nat)(g:Nat->List Plc)(h:∀ t,(g t).length=m)(t s:Nat)(ht:t < n)(hs:s < m):((List.range n).flatMap g)[t*m+s]?=(g t)[s]?:=by
 induction n with
 | zero=>omega
 | succ n ih =>
  rw[List.range_succ,List.flatMap_append]
  have hl:=range_flat_len n m g h
  by_cases e:t < n
  ·have:t*m+s < n*m:=by
    have:(t+1)*m<=n*m:=Nat.mul_le_mul_right m e
    rw[Nat.succ_mul] at this;omega
   rw[List.getElem?_append_left (by omega)]
   exact ih e
  ·obtain rfl:t=n:=by omega
   rw[List.getElem?_append_right (by omega),hl]
   simp[Nat.add_sub_cancel_left]
theorem Blk.pls_len (b:Blk):b.pls.length=b.rows*b.cols:=range_flat_len _ _ _ (by simp)
theorem Blk.pls_at (b:Blk)(t s:Nat)(ht:t < b.rows)(hs:s < b.cols):b.pls[t*b.cols+s]?=some ⟨b.back,b.coords,b.x0+(s:Int),b.y0+(t:Int)⟩:=by
 rw[Blk.pls,range_flat_at _ _ _ (by simp) t s ht hs]
 simp[hs]
theorem cnt_succ (l:List Blk)(j:Nat)(h:j < l.length):cnt l (j+1)=cnt l j+l[j].rows*l[j].cols:=by
 unfold cnt plsAll
 rw[List.take_succ_eq_append_getElem h,List.flatMap_append,List.length_append]
 simp[Blk.pls_len]
theorem cnt_all (l:List Blk):cnt l l.length=(plsAll l).length:=by unfold cnt;rw[List.take_length]
theorem cnt_mono (l:List Blk)(j:Nat)(h:j<=l.length):cnt l j<=(plsAll l).length:=by
 unfold cnt plsAll
 conv=>rhs;rw[<-List.take_append_drop j l]
 rw[List.flatMap_append,List.length_append];omega
theorem plsAll_at (l:List Blk)(j t s:Nat)(h:j < l.length)(ht:t < l[j].rows)(hs:s < l[j].cols) :
  (plsAll l)[cnt l j+(t*l[j].cols+s)]?=some ⟨l[j].back,l[j].coords,l[j].x0+(s:Int),l[j].y0+(t:Int)⟩:=by
 have e0:l=l.take j++(l[j]::l.drop (j+1)):=by rw[<-List.drop_eq_getElem_cons h,List.take_append_drop]
 have e:plsAll l=plsAll (l.take j)++(l[j].pls++plsAll (l.drop (j+1))):=(congrArg plsAll e0).trans (by simp only[plsAll,List.flatMap_append,List.flatMap_cons])
 have hlt:t*l[j].cols+s < l[j].pls.length:=by
  rw[Blk.pls_len]
  have:(t+1)*l[j].cols<=l[j].rows*l[j].cols:=Nat.mul_le_mul_right _ ht
  rw[Nat.succ_mul] at this;omega
 rw[e,List.getElem?_append_right (by unfold cnt;omega)]
 unfold cnt
 rw[Nat.add_sub_cancel_left,List.getElem?_append_left hlt]
 exact Blk.pls_at _ t s ht hs
theorem bcells_at (l:List Blk)(j i:Nat)(h:j < l.length)(hi:i < 6):(bcells l)[j*6+i]?=l[j].cells[i]?:=by
 induction l generalizing j with
 | nil=>simp at h
 | cons b l ih =>
  have hb:b.cells.length=6:=rfl
  have e:bcells (b::l)=b.cells++bcells l:=by simp[bcells]
  cases j with
  | zero=>rw[e,List.getElem?_append_left (by omega)];simp
  | succ j =>
   rw[e,List.getElem?_append_right (by omega),hb,show (j+1)*6+i-6=j*6+i by omega]
   exact ih j (by simpa using h)
def upto (k:Nat):List (Fin 64):=(List.finRange 64).take k
theorem upto_len (k:Nat)(h:k<=64):(upto k).length=k:=by simp[upto];omega
theorem upto_succ (k:Nat)(h:k < 64):upto (k+1)=upto k++[⟨k,h⟩]:=by
 unfold upto
 rw[List.take_succ_eq_append_getElem (by simpa using h)]
 simp
theorem upto_mem (k:Nat)(i:Fin 64):i ∈ upto k↔i.val < k:=by
 unfold upto
 rw[List.mem_take_iff_getElem]
 constructor
 ·rintro⟨j,hj,rfl⟩
  simp at hj ⊢
  omega
 ·intro h
  exact⟨i.val,by simp;omega,by simp⟩
theorem blks_bound (f d:Int):(plcs f d).length < 64/\(blks f d).length<=5/\∀ b ∈ blks f d,0<=b.back/\b.back<=3/\-16<=b.x0/\b.x0<=b.x1/\b.x1<=3/\-2<=b.y0/\b.y0<=b.y1/\b.y1<=1:=by
 unfold plcs
 rcases kind3 f d with⟨hm,rfl⟩|⟨hm,rfl⟩|hm
 ·have e:blks 0 d=imageB:=by simp[blks,hm]
  rw[e];decide
 ·have e:blks 1 d=soundB:=by simp[blks,hm]
  rw[e];decide
 ·have e:blks f d=[]:=by simp[blks,hm]
  rw[e];decide
theorem plcs_len (f d:Int):((plcs f d).length:Int)=countZ f d:=by
 unfold plcs
 rcases kind3 f d with⟨hm,rfl⟩|⟨hm,rfl⟩|hm
 ·have e:blks 0 d=imageB:=by simp[blks,hm]
  rw[e,(zs0 hm).2.2.2];decide
 ·have e:blks 1 d=soundB:=by simp[blks,hm]
  rw[e,(zs1 hm).2.2.2];decide
 ·have e:blks f d=[]:=by simp[blks,hm]
  rw[e,(zs2 hm).2.2.2];decide
end Go.Proofs.YtimdcmponhcngaaGreat.Knd
namespace Go.Proofs.YtimdcmponhcngaaGreat.Knd
open Go.RowKit Go.Shelf
set_option linter.unusedVariables false
set_option maxRecDepth 100000
set_option maxHeartbeats 16000000
attribute [local go_sem] Oper.semAt_some
structure KeepsIn (B:Nat)(W W':World):Prop where
 size:W.heap.size<=W'.heap.size
 same:∀(k:Nat) (o:Obj),B<=k->W.heap[k]?=some o->o.isCells=true->W'.heap[k]?=some o
theorem KeepsIn.refl (B:Nat)(W:World):KeepsIn B W W:=⟨Nat.le_refl _,fun _ _ _ h _=>h⟩
theorem KeepsIn.trans {B:Nat}{X Y Z:World}(h:KeepsIn B X Y)(k:KeepsIn B Y Z):KeepsIn B X Z :=
 ⟨Nat.le_trans h.size k.size,fun i o hB hi ho=>k.same i o hB (h.same i o hB hi ho) ho⟩
theorem KeepsIn.of_grownBy {B:Nat}{W W':World}{row:Option Nat}(hg:W.grownBy W' row)(hrow:∀ j,row=some j->j < B\/∃ o,W.heap[j]?=some o/\o.isCells=false):KeepsIn B W W' :=
 ⟨hg.size,fun k o hB hk ho=>(hg.block k (Array.getElem?_eq_some_iff.1 hk).1 (fun e=>by
  rcases hrow k e.symm with h|⟨o',h1,h2⟩
  ·omega
  ·rw[hk] at h1;cases h1;rw[ho] at h2;cases h2)).trans hk⟩
theorem KeepsIn.of_below {B:Nat}{W W':World}(h:Below W.heap.size W W'):KeepsIn B W W' :=
 ⟨h.size,fun k o _ hk _=>(h.block k (Array.getElem?_eq_some_iff.1 hk).1).trans hk⟩
theorem keepsIn_b {B:Nat}{w:World}(W:World)(l:Nat)(o o':Obj)(_:w.heap.size<=l)(h:W.heap[l]?=some o)(hc:o.isCells=false)(_:o.isWalk=false):KeepsIn B W (W.putObj l o') :=
 KeepsIn.of_grownBy (grownBy_putObj' W l o') (fun j e=>by cases e;exact .inr ⟨o,h,hc⟩)
theorem grownBy_none_of_below {W W':World}(h:Below W.heap.size W W'):W.grownBy W' none:=⟨h.os,h.tape,h.output,h.size,fun k hk _=>h.block k hk⟩
def zp:Plc:=⟨0,0,0,0⟩
def encs (L:List Plc)(i:Fin 64):Array Value :=
 #[.int .i64 (i.val:Int),.agg #[.int .i64 (L.getD i.val zp).back,.int .i64 (L.getD i.val zp).coords,.int .i64 (L.getD i.val zp).x,.int .i64 (L.getD i.val zp).y]]
theorem encs_of {L:List Plc}{N:Nat}(h:N < 64){p:Plc}(hp:L[N]?=some p):encs L ⟨N,h⟩=#[.int .i64 (N:Int),.agg #[.int .i64 p.back,.int .i64 p.coords,.int .i64 p.x,.int .i64 p.y]]:=by
 simp[encs,List.getD,hp]
theorem rects {w2:World}{base:Nat}{v:Value}{l:List Blk}(h:w2.ownsRow base 130 6 v l.length (bcells l)) :
  ∃ a cap,v=.slice a l.length cap/\(l=[]\/∃ g cur,a=some ⟨g,0,none⟩/\base<=g/\w2.heap[g]?=some (.cells cur 130 (0,0))/\∀ i,i < l.length*6->cur[i]?=(bcells l)[i]?):=by
 rcases h.2 with⟨rfl,hl⟩|⟨g,cap,cur,rfl,hb,hg,_,_,hsz,htk⟩
 ·exact⟨none,0,by rw[hl],.inl (List.eq_nil_of_length_eq_zero hl)⟩
 ·refine⟨_,_,rfl,.inr ⟨g,cur,rfl,hb,hg,fun i hi=>?_⟩⟩
  rw[<-htk,List.getElem?_take,if_pos hi,Array.getElem?_toList]
theorem rect_cells {wr:World}{g:Nat}{cur:Array Value}{l:List Blk}(hg:wr.heap[g]?=some (.cells cur 130 (0,0)))(hc:∀ i,i < l.length*6->cur[i]?=(bcells l)[i]?)(j:Nat)(hj:j < l.length) :
  wr.cell? ⟨g,j*6,none⟩=some (.int .i64 l[j].back)/\wr.cell? ⟨g,j*6+1,none⟩=some (.int .i64 l[j].coords)/\wr.cell? ⟨g,j*6+2,none⟩=some (.int .i64 l[j].y0)/\wr.cell? ⟨g,j*6+3,none⟩=some (.int .i64 l[j].y1)/\wr.cell? ⟨g,j*6+4,none⟩=some (.int .i64 l[j].x0)/\wr.cell? ⟨g,j*6+5,none⟩=some (.int .i64 l[j].x1):=by
 have h:=fun i (hi:i < 6)=>(cell_of_row wr g (j*6+i) cur 130 (0,0) hg).trans ((hc _ (by omega)).trans (bcells_at l j i hj hi))
 exact⟨h 0 (by decide),h 1 (by decide),h 2 (by decide),h 3 (by decide),h 4 (by decide),h 5 (by decide)⟩
theorem box_cells {wr:World}{g:Nat}{b:Blk}(hg:wr.heap[g]?=some (.cells #[.int .i64 b.back,.int .i64 b.coords,.int .i64 b.y0,.int .i64 b.y1,.int .i64 b.x0,.int .i64 b.x1] 130 (0,0))) :
  wr.cell? ⟨g,0,none⟩=some (.int .i64 b.back)/\wr.cell? ⟨g,1,none⟩=some (.int .i64 b.coords)/\wr.cell? ⟨g,2,none⟩=some (.int .i64 b.y0)/\wr.cell? ⟨g,3,none⟩=some (.int .i64 b.y1)/\wr.cell? ⟨g,4,none⟩=some (.int .i64 b.x0)/\wr.cell? ⟨g,5,none⟩=some (.int .i64 b.x1):=by
 have h:=fun i=>cell_of_row wr g i _ 130 (0,0) hg
 exact⟨h 0,h 1,h 2,h 3,h 4,h 5⟩
theorem all1_in (n:Nat)(hn:1<=n)(l Bk B:Nat)(f d:Int)(J Jx:List (Fin 64)->World->Prop)(W:World)(hB:B<=W.heap.size)
  (hJ:AbidesFrom W.heap.size J)
  (hY:∀ pre x W1,J pre W1->pre.length < (plcs f d).length->YieldAt Fence.wide (n-1) Tryz.prog l (encs (plcs f d) x) W1 fun e W' =>
   (e=.returned (.bool true)/\J (pre++[x]) W'/\KeepsIn B W1 W')\/(e=.returned (.bool false)/\Jx (pre++[x]) W'))
  (hk0:W.cell? ⟨Bk,0,none⟩=some (.int .i64 f)) (hk1:W.cell? ⟨Bk,1,none⟩=some (.int .i64 d)) (h0:J [] W) :
  CallsIn Fence.wide n Tryz.prog 83 #[.func (.yield l) #[] #[],.pointer (some ⟨Bk,0,none⟩)] W fun e W'=>(∃ v,e=.returned v) /\
   ((∃ xs,xs=upto (plcs f d).length/\J xs W')\/(∃ pre,(∃ k,k<=(plcs f d).length/\pre=upto k)/\Jx pre W')):=by
 have hro:Fence.wide.round=none:=rfl
 refine callsIn_of_wp Tryz.func83 rfl trivial ?_ hro
 simp only[Tryz.ntmps83,List.size_toArray,List.length_cons,List.length_nil,Nat.reduceAdd,Nat.reduceSub,Array.replicate_succ,Array.replicate_zero,List.push_toArray,List.append_toArray,List.nil_append,List.cons_append]
 gi_wp2_with (refine⟨trivial,?_⟩;gi_at_call 84;refine(callsIn_wide.2 (blocks_any f d _)).mono ?_;rintro e w2 ⟨v,rfl,hown,hb2⟩;obtain⟨va,vc,rfl,hrect⟩:=rects hown;have HRect:=hide hrect;have HB2:=hide hb2;clear hown hb2 hrect;obtain⟨LL,hLL⟩:∃ LL,LL=blks f d:=⟨_,rfl⟩;rw[<-hLL] at HRect ⊢;have HLL:=hide hLL;clear hLL)
 have HJ2:Hid (J (upto 0) w2):=hJ _ _ _ none h0 (grownBy_none_of_below HB2.out) (fun r e=>by cases e)
 obtain⟨hlen,h5,hbd⟩:=blks_bound f d
 rw[<-HLL.out] at h5 hbd
 have HN:=hide hlen
 have HBd:=hide hbd
 have HY:=hide hY
 clear hlen hbd hY
 gi_loopw [3,11] (fun nv iv wr=>∃ j N:Nat,j<=LL.length/\iv=.int .i64 j/\nv=.int .i64 N/\N < 64/\Hid (N=cnt LL j)/\Hid (J (upto N) wr)/\Hid (KeepsIn B w2 wr)) (fun _ iv _=>LL.length-(intOf iv).toNat)
 case atStart=>exact⟨0,0,Nat.zero_le _,rfl,rfl,by decide,rfl,HJ2,KeepsIn.refl _ _⟩
 case round =>
  obtain⟨j,N,hj,rfl,rfl,hN64,HNc,HJr,HKr⟩:=hrel
  by_cases hlt:j < LL.length
  ·rcases HRect.out with hnil|⟨g,cur,rfl,hgb,hgc,hcs⟩
   ·rw[hnil] at hlt;simp at hlt
   have HG:Hid (wr.heap[g]?=some (.cells cur 130 (0,0))):=HKr.out.same g _ (by omega) hgc rfl
   obtain⟨c0,c1,c2,c3,c4,c5⟩:=rect_cells HG.out hcs j hlt
   have HCS:=hide hcs
   have HGC:=hide hgc
   clear hcs hgc HRect
   obtain⟨bk,hbk⟩:∃ bk,bk=LL[j]:=⟨_,rfl⟩
   rw[<-hbk] at c0 c1 c2 c3 c4 c5
   have HBK:=hide hbk
   obtain⟨q1,q2,q3,q4,q5,q6,q7,q8⟩:=HBd.out bk (by rw[hbk];exact List.getElem_mem hlt)
   clear hbk
   have hbx:(wr.alloc (.cells #[.int .i64 bk.back,.int .i64 bk.coords,.int .i64 bk.y0,.int .i64 bk.y1,.int .i64 bk.x0,.int .i64 bk.x1] 130)).heap[wr.heap.size]?=some (.cells #[.int .i64 bk.back,.int .i64 bk.coords,.int .i64 bk.y0,.int .i64 bk.y1,.int .i64 bk.x0,.int .i64 bk.x1] 130 (0,0)):=heap_alloc_new wr _
   have HBx:=hide hbx
   have HJ3:Hid (J (upto N) (wr.alloc (.cells #[.int .i64 bk.back,.int .i64 bk.coords,.int .i64 bk.y0,.int .i64 bk.y1,.int .i64 bk.x0,.int .i64 bk.x1] 130))):=hJ _ _ _ none HJr.out (World.grownBy_alloc _ _ none) (fun r e=>by cases e)
   have HK3:Hid (KeepsIn B w2 (wr.alloc (.cells #[.int .i64 bk.back,.int .i64 bk.coords,.int .i64 bk.y0,.int .i64 bk.y1,.int .i64 bk.x0,.int .i64 bk.x1] 130))):=HKr.out.trans (KeepsIn.of_below (bel1 _ _))
   have HBb:Hid (B<=wr.heap.size):=Nat.le_trans hB (Nat.le_trans HB2.out.size HKr.out.size)
   have HRows:Hid (N+bk.rows*bk.cols < 64/\N+bk.rows*bk.cols=cnt LL (j+1)/\cnt LL (j+1)<=(plcs f d).length):=by
    have h1:=cnt_succ LL j hlt
    have h2:=cnt_mono LL (j+1) hlt
    have h3:=HN.out
    have h4:=HNc.out
    unfold plcs at h3 ⊢
    rw[<-HLL.out] at h3 ⊢
    rw[HBK.out]
    exact⟨by omega,by omega,h2⟩
   clear hbx
   gi_wp2
   clear c0 c1 c2 c3 c4 c5 HG HJr HKr HJ2
   generalize (wr.alloc (.cells #[.int .i64 bk.back,.int .i64 bk.coords,.int .i64 bk.y0,.int .i64 bk.y1,.int .i64 bk.x0,.int .i64 bk.x1] 130))=w3 at HBx HJ3 HK3 ⊢
   generalize wr.heap.size=Bb at HBx HBb ⊢
   gi_loopw [3,6] (fun nv yv wt=>∃(t M:Nat) (Y:Int),t<=bk.rows/\yv=.int .i64 Y/\-2<=Y/\Y<=bk.y1+1/\Hid (Y=bk.y0+(t:Int))/\nv=.int .i64 M/\M < 64/\Hid (M=N+t*bk.cols)/\Hid (J (upto M) wt)/\Hid (KeepsIn B w2 wt)/\Hid (wt.heap[Bb]?=some (.cells #[.int .i64 bk.back,.int .i64 bk.coords,.int .i64 bk.y0,.int .i64 bk.y1,.int .i64 bk.x0,.int .i64 bk.x1] 130 (0,0)))) (fun _ yv _=>(bk.y1+1-intOf yv).toNat)
   case atStart=>exact⟨0,N,bk.y0,Nat.zero_le _,rfl,by omega,by omega,by unfold Hid;simp,rfl,hN64,by unfold Hid;simp,HJ3,HK3,HBx⟩
   case round =>
    obtain⟨t,M,Y,ht,rfl,hY1,hY2,HYt,rfl,hM64,HM,HJt,HKt,HBt⟩:=hrel
    obtain⟨b0,b1,b2,b3,b4,b5⟩:=box_cells HBt.out
    by_cases hle:Y<=bk.y1
    ·have htr:t < bk.rows:=by
      have:=HYt.out
      unfold Blk.rows
      omega
     have HIdx:Hid (M+bk.cols < 64/\M+bk.cols=N+(t+1)*bk.cols/\∀ s,s < bk.cols->M+s < (plcs f d).length/\(plcs f d)[M+s]?=some ⟨bk.back,bk.coords,bk.x0+(s:Int),Y⟩):=by
      obtain⟨r1,r2,r3⟩:=HRows.out
      have h1:(t+1)*bk.cols<=bk.rows*bk.cols:=Nat.mul_le_mul_right _ htr
      have h2:=HM.out
      have h3:(t+1)*bk.cols=t*bk.cols+bk.cols:=Nat.succ_mul _ _
      refine⟨by omega,by omega,fun s hs=>⟨by omega,?_⟩⟩
      have h4:=plsAll_at LL j t s hlt (by rw[<-HBK.out];exact htr) (by rw[<-HBK.out];exact hs)
      rw[<-HBK.out,<-HNc.out,HLL.out] at h4
      rw[HYt.out,h2,show N+t*bk.cols+s=N+(t*bk.cols+s) by omega]
      exact h4
     clear b0 b1 b2
     gi_wp2
     clear b3 b4 b5
     generalize wr=wt at HJt HKt HBt ⊢
     gi_loopw [3,7] (fun nv xv ws=>∃(s R:Nat) (X:Int),s<=bk.cols/\xv=.int .i64 X/\-16<=X/\X<=bk.x1+1/\Hid (X=bk.x0+(s:Int))/\nv=.int .i64 R/\R < 64/\Hid (R=M+s)/\Hid (J (upto R) ws)/\Hid (KeepsIn B w2 ws)/\Hid (ws.heap[Bb]?=some (.cells #[.int .i64 bk.back,.int .i64 bk.coords,.int .i64 bk.y0,.int .i64 bk.y1,.int .i64 bk.x0,.int .i64 bk.x1] 130 (0,0)))) (fun _ xv _=>(bk.x1+1-intOf xv).toNat)
     case atStart=>exact⟨0,M,bk.x0,Nat.zero_le _,rfl,by omega,by omega,by unfold Hid;simp,rfl,hM64,by unfold Hid;simp,HJt,HKt,HBt⟩
     case round =>
      obtain⟨s,R,X,hs,rfl,hX1,hX2,HXs,rfl,hR64,HR,HJs,HKs,HBs⟩:=hrel
      obtain⟨b0,b1,b2,b3,b4,b5⟩:=box_cells HBs.out
      by_cases hlx:X<=bk.x1
      ·have hsc:s < bk.cols:=by
        have:=HXs.out
        unfold Blk.cols
        omega
       obtain⟨i1,i2,i3⟩:=HIdx.out
       obtain⟨i4,i5⟩:=i3 s hsc
       rw[<-HXs.out,<-HR.out] at i5
       have hR1:R+1 < 64:=by have:=HR.out;omega
       have HLen:Hid (R < (plcs f d).length):=by unfold Hid;have:=HR.out;omega
       have hyy:=HY.out (upto R) ⟨R,hR64⟩ wr HJs.out (by rw[upto_len R (by omega)];exact HLen.out)
       rw[encs_of hR64 i5,<-upto_succ R hR64] at hyy
       obtain⟨fn,tmps,assign,body,hy,hRd⟩:=hyy
       dsimp only at hy
       clear i1 i2 i3 i4 i5 b2 b3
       gi_wp2
       refine hRd.mono ?_
       rintro e W3 (⟨rfl,hJ3,hk3⟩|⟨rfl,hJx3⟩)
       ·have HJ4:=hide hJ3
        have HK4:=hide hk3
        clear hJ3 hk3 b0 b1 b4 b5
        gi_wp2
        refine⟨⟨s+1,R+1,X+1,hsc,rfl,by omega,by omega,?_,by go_num,hR1,?_,HJ4,HKs.out.trans HK4.out,HK4.out.same Bb _ HBb.out HBs.out rfl⟩,?_⟩
        ·have:=HXs.out
         unfold Hid
         omega
        ·have:=HR.out
         unfold Hid
         omega
        ·simp[intOf];omega
       ·gi_wp2
        refine bodyPost_ret (results_none rfl _ _ _) rfl ?_
        exact⟨⟨_,rfl⟩,.inr ⟨_,⟨R+1,HLen.out,rfl⟩,hJx3⟩⟩
      ·have hsc:s=bk.cols:=by
        have:=HXs.out
        unfold Blk.cols at hs ⊢
        omega
       gi_wp2
       refine⟨⟨t+1,R,Y+1,htr,rfl,by omega,by omega,?_,rfl,hR64,?_,HJs,HKs,HBs⟩,?_⟩
       ·have:=HYt.out
        unfold Hid
        omega
       ·have h1:=HR.out
        have h2:=HIdx.out.2.1
        unfold Hid
        omega
       ·simp[intOf];omega
    ·have htr:t=bk.rows:=by
      have:=HYt.out
      unfold Blk.rows at ht ⊢
      omega
     gi_wp2
     refine⟨⟨j+1,M,hlt,by go_num,rfl,hM64,?_,HJt,HKt⟩,?_⟩
     ·have h1:=HM.out
      have h2:=HRows.out.2.1
      unfold Hid
      rw[htr] at h1
      omega
     ·simp[intOf];omega
  ·obtain rfl:j=LL.length:=by omega
   gi_wp2
   go_end0
   refine⟨⟨_,rfl⟩,.inl ⟨_,?_,HJr.out⟩⟩
   rw[HNc.out,cnt_all,plcs,HLL.out]
theorem all_stops (n:Nat)(hn:1<=n)(Bk B:Nat)(f d:Int)(w:World)(hBk:Bk < w.heap.size)(hB:B<=w.heap.size)
  (hk0:w.cell? ⟨Bk,0,none⟩=some (.int .i64 f)) (hk1:w.cell? ⟨Bk,1,none⟩=some (.int .i64 d)) :
  SeqStopsK Fence.wide n Tryz.prog 83 #[.pointer (some ⟨Bk,0,none⟩)] (encs (plcs f d)) (KeepsIn B) (fun xs=>xs=upto (plcs f d).length)
   (fun pre=>∃ k,k<=(plcs f d).length/\pre=upto k) (plcs f d).length w:=fun l J Jx W hW hJ _ hY h0 =>
 all1_in n hn l Bk B f d J Jx W (Nat.le_trans hB hW.size) hJ hY ((hW.cell (p:=⟨Bk,0,none⟩) hBk).trans hk0) ((hW.cell (p:=⟨Bk,1,none⟩) hBk).trans hk1) h0
theorem all_any (f d:Int)(w:World) :
  Calls Tryz.prog 52 #[.agg #[.int .i64 f,.int .i64 d]] w fun e w'=>e=.returned (.func (.func 83) #[] #[.pointer (some ⟨w.heap.size,0,none⟩)])/\w'=w.alloc (.cells #[.int .i64 f,.int .i64 d] 23):=by
 go_enter Tryz.func52,Tryz.ntmps52
 go_wp2
 go_ret
 exact⟨rfl,rfl⟩
end Go.Proofs.YtimdcmponhcngaaGreat.Knd
namespace Go.Proofs.YtimdcmponhcngaaGreat.Knd
open Go.RowKit Go.Shelf
set_option linter.unusedVariables false
set_option maxRecDepth 100000
set_option maxHeartbeats 16000000
attribute [local go_sem] Oper.semAt_some
def HasC (W:World)(b:Nat)(t:TypeId)(cs:Array Value):Prop:=W.heap[b]?=some (.cells cs t (0,0))
theorem HasC.lt {W:World}{b:Nat}{t:TypeId}{cs:Array Value}(h:HasC W b t cs):b < W.heap.size:=(Array.getElem?_eq_some_iff.1 h).1
theorem HasC.new (W:World)(t:TypeId)(cs:Array Value):HasC (W.alloc (.cells cs t)) W.heap.size t cs:=heap_alloc_new W _
theorem HasC.kept {W W':World}{row:Option Nat}{b:Nat}{t:TypeId}{cs:Array Value}(h:HasC W b t cs)(hg:W.grownBy W' row)(hne:some b≠row):HasC W' b t cs:=(hg.block b h.lt hne).trans h
theorem HasC.alloc {W:World}{b:Nat}{t:TypeId}{cs:Array Value}(h:HasC W b t cs)(o:Obj):HasC (W.alloc o) b t cs:=h.kept (World.grownBy_alloc W o none) (by simp)
theorem HasC.below {W W':World}{b:Nat}{t:TypeId}{cs:Array Value}(h:HasC W b t cs)(hb:Below W.heap.size W W'):HasC W' b t cs:=(hb.block b h.lt).trans h
theorem HasC.cell {W:World}{b:Nat}{t:TypeId}{cs:Array Value}(h:HasC W b t cs)(i:Nat){v:Value}(hv:cs[i]?=some v):W.cell? ⟨b,i,none⟩=some v:=(cell_of_row W b i cs t (0,0) h).trans hv
theorem HasC.frozen {W:World}{b:Nat}{t:TypeId}{cs:Array Value}(h:HasC W b t cs)(i:Nat):W.frozen? ⟨b,i,none⟩=false:=by
 simp[World.frozen?,show W.heap[b]?=_ from h]
theorem HasC.other {W:World}{b:Nat}{t:TypeId}{cs:Array Value}(h:HasC W b t cs){p:Addr}(hne:b≠p.block)(u:Value):HasC (W.setCell p u) b t cs:=(Below.heap_setCell W p u b hne).trans h
theorem HasC.set {W:World}{b:Nat}{t:TypeId}{cs:Array Value}(h:HasC W b t cs)(i:Nat)(u:Value):HasC (W.setCell ⟨b,i,none⟩ u) b t (cs.setIfInBounds i u):=by
 obtain⟨hlt,hk⟩:=Array.getElem?_eq_some_iff.1 h
 show (W.heap.modify b _)[b]?=_
 rw[Array.getElem?_eq_getElem (by rw[Array.size_modify];exact hlt),Array.getElem_modify_self,hk]
 rfl
theorem hasC_own {β:Type}(b:Nat)(t:TypeId)(f:β->Array Value):Own (fun s W=>HasC W b t (f s)):=fun s X Y row hs hg hrow =>
 hs.kept hg (fun e'=>by obtain⟨o,ho,hc⟩:=hrow b e'.symm;rw[show X.heap[b]?=_ from hs] at ho;cases ho;cases hc)
def pcells (p:Plc):Array Value:=#[.int .i64 p.back,.int .i64 p.coords,.int .i64 p.x,.int .i64 p.y]
theorem ownFrom_hasC {β:Type}{B:Nat}(b:Nat)(t:TypeId)(f:β->Array Value):OwnFrom B (fun s W=>HasC W b t (f s)):=Own.from (hasC_own b t f) B
end Go.Proofs.YtimdcmponhcngaaGreat.Knd
