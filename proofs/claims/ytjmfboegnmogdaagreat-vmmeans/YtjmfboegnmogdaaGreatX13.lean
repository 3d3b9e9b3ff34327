import Derived.Test.YtjmfboegnmogdaaGreatXH
import Derived.Lib.QuietBelow
import Derived.BigQuiet
import Derived.Deep.RegionWith
import Derived.Test.YtjmfboegnmogdaaGreatX12
set_option maxRecDepth 100000
set_option maxHeartbeats 32000000
set_option linter.unusedVariables false
namespace Go.Proofs.Knd
open Go.RowKit Go.Shelf Go.Maps
attribute [local go_sem] Oper.semAt_some
theorem bsz {w w2:World}{o:Obj}(h:Below (w.alloc o).heap.size (w.alloc o) w2):w.heap.size < w2.heap.size:=by have:=h.size;simp at this;omega
theorem zK (c:Int)(w:World):(Instr.makeMap 177 (some (.int .i64 c))).run Tryz.prog w=.ok (.map (some w.heap.size)) (w.alloc (.map #[] 0)):=by
 simp[Instr.makeMap,run_underlying Tryz.underlying177,go_sem]
theorem aF3 (m:Nat)(hm:6<=m)(f d:Int)(w:World) :
  CallsIn Fence.wide m Tryz.prog 142 #[.agg #[.int .i64 f,.int .i64 d]] w fun e w'=>∃ b D,e=.returned (.map (some b))/\w'.ownsMap Tryz.prog 91 (plainElem (H:=Unit) Tryz.prog 3) b 64 D/\yY (gF f d) (upto (gF f d).length) D/\Below w.heap.size w w':=by
 have h1:1<=m:=by omega
 have hro:Fence.wide.round=none:=rfl
 have hmm:=zK
 have hb:=aC w (.cells #[.int .i64 f,.int .i64 d] 23)
 refine callsIn_of_wp_marks Tryz.func142 rfl trivial ?_ hro
 simp only[Tryz.ntmps142,List.size_toArray,List.length_cons,List.length_nil,Nat.reduceAdd,Nat.reduceSub,Array.replicate_succ,Array.replicate_zero,List.push_toArray,List.append_toArray,List.nil_append,List.cons_append]
 gi_wp2_with (refine⟨trivial,?_⟩;first|(gi_at_call 172;refine(callsIn_wide.2 (aO2 f d _)).mono ?_;rintro e w3 ⟨rfl,rfl⟩)|(gi_at_call 72;refine(callsIn_wide.2 (pK f d _)).mono ?_;rintro e w2 ⟨rfl,hb2⟩;obtain⟨hc2,hf2⟩:=jF hb2;have hz2:=bsz hb2))
 have HB2:=aA (bel hb hb2)
 have hKd:=aB.new ((w2.alloc (.map #[] 0)).alloc (.cells #[.map (some w2.heap.size)] 177)) 23 #[.int .i64 f,.int .i64 d]
 have hLs:=(aB.new (w2.alloc (.map #[] 0)) 177 #[.map (some w2.heap.size)]).alloc (.cells #[.int .i64 f,.int .i64 d] 23)
 have hM:=((World.ownsMap_made w2 Tryz.prog 91 (plainElem (H:=Unit) Tryz.prog 3)).alloc (.cells #[.map (some w2.heap.size)] 177)).alloc (.cells #[.int .i64 f,.int .i64 d] 23)
 have hsz:(((w2.alloc (.map #[] 0)).alloc (.cells #[.map (some w2.heap.size)] 177)).alloc (.cells #[.int .i64 f,.int .i64 d] 23)).heap.size=w2.heap.size+3:=by simp
 have hB0:Below w.heap.size w (((w2.alloc (.map #[] 0)).alloc (.cells #[.map (some w2.heap.size)] 177)).alloc (.cells #[.int .i64 f,.int .i64 d] 23)) :=
  ((HB2.o.alloc HB2.o.size _).alloc (by have:=HB2.o.size;simp;omega) _).alloc (by have:=HB2.o.size;simp;omega) _
 simp only[World.size_alloc] at hKd hLs
 obtain⟨W0,hW0⟩:∃ W0,(((w2.alloc (.map #[] 0)).alloc (.cells #[.map (some w2.heap.size)] 177)).alloc (.cells #[.int .i64 f,.int .i64 d] 23))=W0:=⟨_,rfl⟩
 rw[hW0] at hKd hLs hM hsz hB0 ⊢
 clear hW0 hc2 hf2 hb2 hb HB2
 obtain⟨Z,hZ⟩:∃ Z,w2.heap.size=Z:=⟨_,rfl⟩
 rw[hZ] at hKd hLs hM hsz hz2 ⊢
 clear hZ
 obtain⟨L,hL⟩:∃ L,L=gF f d:=⟨_,rfl⟩
 have HL:=aA hL
 have hseq:=all_stops (m-1) (by omega) (Z+1+1) W0.heap.size f d W0 (by omega) (Nat.le_refl _) (hKd.cell 0 rfl) (hKd.cell 1 rfl)
 rw[<-hL] at hseq
 clear hL
 refine wpIn_rangeFunc_ownH hro h1 (gf:=198) (lb:=#[.pointer (some ⟨Z+1+1,0,none⟩)]) rfl trivial (enters_of Tryz.func198 (by kernel_rfl) rfl)
  hseq (fun h k=>h.trans k) aI1 (Below.refl _ _) (fun _=>rfl)
  (fun pre W=>(aB W (Z+1) 177 #[.map (some Z)]/\∃ D,W.ownsMap Tryz.prog 91 (plainElem (H:=Unit) Tryz.prog 3) Z pre.length D/\yY L pre D)/\Below w.heap.size w W)
  (fun _ _ _=>False)
  (OwnFrom.and (OwnFrom.and (aCa _ _ _) (fun s X Y row hs hg hr=>by
   obtain⟨D,h1,h2⟩:=hs
   exact⟨D,h1.kept hg (fun e=>by have:=(hr _ e.symm).1;omega),h2⟩)) (ownFrom_below (Nat.le_refl _) (by omega)))
  (fun _ _ _ _ _ hs _ _=>hs)
  ⟨⟨hLs,_,hM,yY.nil L⟩,hB0⟩
  (fun x a' W=>∃ Bx,Z+1 < Bx/\aB W Bx 91 (lY (L.getD x.val zp))/\a'={ tmps:=#[.agg #[.int .i64 f,.int .i64 d],.pointer (some ⟨w.heap.size,0,none⟩),.map none,.pointer (some ⟨Z+1,0,none⟩),.int .i64 (x.val:Int),.pointer (some ⟨Bx,0,none⟩),.agg #[.int .i64 f,.int .i64 d],.int .i64 (bL f d),.map (some Z),.agg #[.int .i64 f,.int .i64 d],.func (.func 198) #[] #[.pointer (some ⟨Z+1+1,0,none⟩)],.int .i64 (x.val:Int),.agg (lY (L.getD x.val zp)),undef,undef,undef,undef],defers:=[] })
  (fun x a' _ X Y row hs hg hr=>by obtain⟨Bx,h1,h2,h3⟩:=hs;exact⟨Bx,h1,aDn Bx 91 (fun(_:Unit)=>lY (L.getD x.val zp)) () X Y row h2 hg (fun r e=>(hr r e).2),h3⟩)
  ?assign ?body ?done ?stop
 case assign =>
  rintro l pre x W K ⟨⟨hLs1,D,hM1,hT1⟩,hB1⟩ hK
  simp only[encs]
  gi_wp2
  exact hK _ _ ((KeepsOthers.alloc _ _).from _) (KeepsIn.of_below (aC _ _)) ⟨⟨hLs1.alloc _,D,hM1.alloc _,hT1⟩,hB1.alloc hB1.size _⟩ ⟨W.heap.size,hLs1.lt,aB.new W 91 _,rfl⟩
 case body =>
  rintro l pre x a' W hl ⟨r,hr⟩ ⟨⟨hLs1,D,hM1,hT1⟩,hB1⟩ ⟨Bx,hBx,hX,rfl⟩ hlt
  have cL:=hLs1.cell 0 rfl
  obtain⟨p,hp0⟩:∃ p,p=L.getD x.val zp:=⟨_,rfl⟩
  have hpw:p.wf:=by rw[hp0,HL.o];exact aP1 f d _
  rw[<-hp0] at hX ⊢
  have HP:=aA hp0
  have HT:=aA hT1
  have HM:=aA hM1
  clear hp0 hT1 hM1
  have cx0:W.cell? ⟨Bx,0,none⟩=some (.int .i64 p.back):=hX.cell 0 rfl
  have cx1:W.cell? ⟨Bx,1,none⟩=some (.int .i64 p.coords):=hX.cell 1 rfl
  have cx2:W.cell? ⟨Bx,2,none⟩=some (.int .i64 p.x):=hX.cell 2 rfl
  have cx3:W.cell? ⟨Bx,3,none⟩=some (.int .i64 p.y):=hX.cell 3 rfl
  have hl64:pre.length < 64:=by have:=(kK f d).1;rw[<-HL.o] at this;omega
  gi_wp2_with (gi_at_mapUpdate;refine wpListIn_mapUpdate_own _ rfl _ _ _ 177 rfl 91 3 aHl Tryz.underlying177 _ Z pre.length _ rfl HM.o (by unfold maxLen;omega) _ _ _ rfl rfl (fM hpw) _ [] (plainElem_int Tryz.underlying3 (lD (n:=(x.val:Int)) (by unfold gG;omega))) ?_;intro w1 hown1 hgrow1)
  exact⟨KeepsFrom.of_grownBy hgrow1 (fun j e=>by cases e;omega),KeepsIn.of_grownBy hgrow1 (fun j e=>by cases e;exact .inl (by omega)),
   ⟨hLs1.kept hgrow1 (by simp),_,by rw[List.length_append];exact hown1,by have h:=HT.o.snoc x (by rw[<-HP.o];exact hpw);rw[<-HP.o] at h;exact h⟩,hB1.grown hgrow1 hB1.size (fun k e=>by cases e;omega)⟩
 case done =>
  rintro D0 ys W hD rfl ⟨⟨hLs1,D,hM1,hT1⟩,hB1⟩ hK
  have cL:=hLs1.cell 0 rfl
  have hle:=(kK f d).1
  rw[<-HL.o] at hle
  rw[aE0 _ (by omega)] at hM1
  gi_wp2
  refine⟨by simp,.inl ⟨_,_,rfl,run_takeDeferred hK,?_⟩⟩
  refine⟨_,results_tmp rfl _ _ _,Z,D,rfl,(hM1.mono (by omega)).kept (grownBy_putObj' _ D0 _) (fun e=>by cases e;omega),by rw[<-HL.o];exact hT1,hB1.trans (belowK_b (w:=w) (Nat.le_refl _) W D0 _ _ (by omega) hK rfl rfl)⟩
 case stop =>
  rintro D c pre W _ _ h _
  exact h.elim
theorem aDz (f d:Int)(w:World) :
  Calls Tryz.prog 142 #[.agg #[.int .i64 f,.int .i64 d]] w fun e w'=>∃ b D,e=.returned (.map (some b))/\w'.ownsMap Tryz.prog 91 (plainElem (H:=Unit) Tryz.prog 3) b 64 D/\yY (gF f d) (upto (gF f d).length) D/\Below w.heap.size w w' :=
 callsIn_wide.1 (aF3 6 (Nat.le_refl _) f d w)
def lW (f d:Int)(p:Plc):Option Nat:=look (gF f d) (upto (gF f d).length) p
def aMu (f d:Int)(p:Plc):Value:=.tuple #[.int .i64 (((lW f d p).getD 0:Nat):Int),.bool (lW f d p).isSome]
theorem aUq {f d:Int}{p:Plc}(hp:p.wf){w2:World}{b:Nat}{D:DataW Unit}(hM:w2.ownsMap Tryz.prog 91 (plainElem (H:=Unit) Tryz.prog 3) b 64 D)(hT:yY (gF f d) (upto (gF f d).length) D) :
  ∃ c q,(Instr.lookup 177 (.map (some b)) (.agg #[.int .i64 p.back,.int .i64 p.coords,.int .i64 p.x,.int .i64 p.y]) true).run Tryz.prog w2=.ok (.tuple #[.int .i64 c,.bool q]) w2/\Hid (.tuple #[.int .i64 c,.bool q]=aMu f d p):=by
 obtain⟨v,ps,hrun,hv⟩:=hM.look_ok aHl Tryz.underlying177 (Tryz.zeroValue3 w2) (plainElem_int Tryz.underlying3 (lD (n:=0) (by unfold gG;omega))) (fM hp)
 obtain⟨c,rfl,hc,hwc⟩:=plainElem_int_inv Tryz.underlying3 hv
 obtain⟨t1,t2⟩:=hT.2 p hp
 have hc1:D.atKey (kl p) (.lit (.int .i64 0))=.lit (.int .i64 c):=congrArg Prod.fst hc
 rw[t2] at hc1
 simp at hc1
 refine⟨_,_,hrun,?_⟩
 unfold Hid
 rw[t1,<-hc1]
 rfl
theorem iZ (f d:Int)(p:Plc)(hp:p.wf)(w:World) :
  Calls Tryz.prog 100 #[.agg #[.int .i64 f,.int .i64 d],.agg #[.int .i64 p.back,.int .i64 p.coords,.int .i64 p.x,.int .i64 p.y]] w fun e w'=>e=.returned (aMu f d p)/\Below w.heap.size w w':=by
 have hb:=(aC w (.cells #[.int .i64 f,.int .i64 d] 23)).alloc (by simp) (.cells #[.int .i64 p.back,.int .i64 p.coords,.int .i64 p.x,.int .i64 p.y] 91)
 go_enter Tryz.func100,Tryz.ntmps100
 go_wp2
 go_region_with (go_at_call 142;refine(aDz _ _ _).mono ?_;rintro e w2 ⟨b,D,rfl,hM,hT,hb2⟩;obtain⟨hc2,hf2⟩:=jF hb2;obtain⟨c,q,hrun,hv⟩:=aUq hp hM hT)
 all_goals go_simp
 all_goals go_wp2
 all_goals go_ret2
 all_goals exact⟨by rw[<-hv.o];rfl,bel hb.drew hb2⟩
end Go.Proofs.Knd
