import Derived.Maps.OwnIn
import Derived.Maps.OwnSet
import Derived.DeepKeys4
import Derived.Lib.QuietBelow
import Derived.BigQuiet
import Derived.Deep.RegionWith
import Derived.Test.YtimdcmponhcngaaGreatX01
namespace Go.Proofs.YtimdcmponhcngaaGreat.Knd
open Go.RowKit
set_option linter.unusedVariables false
set_option maxRecDepth 100000
set_option maxHeartbeats 16000000
theorem info3:(Tryz.prog.info? 3).map (fun i=>(i.zero,i.size,i.bytes))=some (some (.int .i64 0),1,8):=by kernel_rfl
abbrev i64s (xs:List Int):List Value:=xs.map (Value.int .i64)
structure Ints (w:World)(a:Option Addr)(n cap:Nat)(xs:List Int):Prop where
 len:xs.length=n
 le:n<=cap
 max:cap<=maxLen
 nil:a=none->cap=0
 cell:n=0\/∃ b off,a=some ⟨b,off,none⟩/\∀ i,i < n->w.cell? ⟨b,off+i,none⟩=some (.int .i64 (xs.getD i 0))
theorem Ints.at {w:World}{a:Option Addr}{n cap:Nat}{xs:List Int}(h:Ints w a n cap xs)(hn:n≠0) :
  ∃ b off,a=some ⟨b,off,none⟩/\b < w.heap.size/\∀ i,i < n->w.cell? ⟨b,off+i,none⟩=some (.int .i64 (xs.getD i 0)):=by
 rcases h.cell with h0|⟨b,off,ha,hc⟩
 ·exact absurd h0 hn
 ·exact⟨b,off,ha,World.block_lt_of_cell? w _ (hc 0 (by omega)),hc⟩
theorem Ints.of_cells {w w':World}{a:Option Addr}{n cap:Nat}{xs:List Int}(h:Ints w a n cap xs)
  (hc:∀ b off,a=some ⟨b,off,none⟩->n≠0->∀ i,i < n->w'.cell? ⟨b,off+i,none⟩=w.cell? ⟨b,off+i,none⟩):Ints w' a n cap xs:=by
 refine⟨h.len,h.le,h.max,h.nil,?_⟩
 by_cases hn:n=0
 ·exact .inl hn
 ·obtain⟨b,off,ha,_,hcell⟩:=h.at hn
  exact .inr ⟨b,off,ha,fun i hi=>(hc b off ha hn i hi).trans (hcell i hi)⟩
theorem Ints.later {w w':World}{a:Option Addr}{n cap:Nat}{xs:List Int}(h:Ints w a n cap xs)(hb:Below w.heap.size w w'):Ints w' a n cap xs:=by
 refine h.of_cells fun b off ha hn i hi=>?_
 obtain⟨b',off',ha',hlt,_⟩:=h.at hn
 rw[ha] at ha'
 cases ha'
 exact hb.cell (p:=⟨b,off+i,none⟩) hlt
theorem Ints.of_owns {w:World}{base:Nat}{v:Value}{n:Nat}{xs:List Int}(h:w.ownsRow base 3 1 v n (i64s xs)) :
  ∃ a cap,v=.slice a n cap/\Ints w a n cap xs/\(∀ x,a=some x->base<=x.block/\x.block < w.heap.size):=by
 have hl:xs.length=n:=by simpa using h.1
 have hlt:=h.lt
 have hcs:=fun g hg=>h.cells (g:=g) hg
 rcases h.2 with⟨rfl,rfl⟩|⟨g,cap,cur,rfl,hb,hg,hnc,hcm,hsz,htake⟩
 ·exact⟨none,0,rfl,⟨hl,Nat.le_refl _,Nat.zero_le _,fun _=>rfl,.inl rfl⟩,fun x hx=>by cases hx⟩
 ·refine⟨some ⟨g,0,none⟩,cap,rfl,⟨hl,hnc,hcm,(fun h=>by cases h),.inr ⟨g,0,rfl,fun i hi=>?_⟩⟩,fun x hx=>by cases hx;exact hlt g rfl⟩
  have:=hcs g rfl i (.int .i64 (xs.getD i 0)) (by simp[List.getD,hl,hi])
  rw[Addr.add_lit] at this
  exact this
theorem Ints.news {w:World}{a:Option Addr}{n cap:Nat}{xs:List Int}(h:Ints w a n cap xs):∀ ad,a=some ad->∀ j u,(i64s xs)[j]?=some u->w.cell? (ad.add j)=some u:=by
 intro ad ha j u hu
 have hj:j < n:=by
  have:=(List.getElem?_eq_some_iff.1 hu).1
  simpa [h.len] using this
 obtain⟨b,off,ha',_,hc⟩:=h.at (by omega)
 rw[ha] at ha'
 cases ha'
 rw[Addr.add_lit,hc j hj]
 have hl:=h.len
 simp only[i64s,List.getElem?_map] at hu
 rw[List.getElem?_eq_getElem (by omega)] at hu
 simp only[Option.map_some,Option.some.injEq] at hu
 rw[<-hu]
 simp[List.getD,hl,hj]
end Go.Proofs.YtimdcmponhcngaaGreat.Knd
namespace Go.Proofs.YtimdcmponhcngaaGreat.Knd
open Go.RowKit Go.Maps
set_option linter.unusedVariables false
set_option maxRecDepth 100000
set_option maxHeartbeats 16000000
theorem laidOut:laidOutB Tryz.prog=true:=by kernel_rfl
theorem row30:(65:TypeId) < Tryz.prog.types.size:=of_decide_eq_true (by kernel_rfl)
theorem wide30:(match Tryz.prog.underlying 65 with|some (.array _ _)|some (.struct _)=>true|_=>false)=true:=by rw[Tryz.underlying65]
theorem law30:Keyed Tryz.prog 65:=Keyed.of_law (deep_law_laid laidOut (m:=2) (by omega) row30 (by kernel_rfl) wide30)
theorem keyType30:Tryz.prog.keyType 65=true:=by kernel_rfl
theorem cells30:Tryz.prog.cellsOf 65=4:=by kernel_rfl
def wf64 (n:Int):Prop:=-9223372036854775808<=n/\n<=9223372036854775807
def Plc.wf (p:Plc):Prop:=wf64 p.back/\wf64 p.coords/\wf64 p.x/\wf64 p.y
theorem wf64_lit {n:Int}(h:wf64 n):(Lit.int .i64 n).wf=true:=by
 unfold wf64 at h;simp[Lit.wf,IntKind.min,IntKind.max,IntKind.bits,IntKind.signed];omega
theorem cells3:Tryz.prog.cellsOf 3=1:=by kernel_rfl
theorem lits3 (d:Nat){n:Int}(h:wf64 n):Tryz.prog.keyLits (d+1) 3 [.int .i64 n]=some [.int .i64 n]:=by
 unfold Program.keyLits
 rw[Tryz.underlying3]
 simp[wf64_lit h]
theorem lits30 (d:Nat){p:Plc}(h:p.wf):Tryz.prog.keyLits (d+1+1) 65 (pcells p).toList=some [.int .i64 p.back,.int .i64 p.coords,.int .i64 p.x,.int .i64 p.y]:=by
 obtain⟨h0,h1,h2,h3⟩:=h
 unfold Program.keyLits
 simp only[Tryz.underlying65]
 simp[pcells,cells30,cells3,lits3 d h0,lits3 d h1,lits3 d h2,lits3 d h3]
noncomputable def kl (p:Plc):Lit:=(keyOf Tryz.prog 65 (.agg (pcells p))).getD (.bool false)
theorem key_some {p:Plc}(h:p.wf):keyOf Tryz.prog 65 (.agg (pcells p))=some (kl p):=by
 have:∃ l,keyOf Tryz.prog 65 (.agg (pcells p))=some l:=by
  have hf:(Value.agg (pcells p)).formed Tryz.prog 65=true:=by
   simp only[Value.formed,Tryz.underlying65,cells30]
   rfl
  obtain⟨k,hk⟩:∃ k,Tryz.prog.types.size+1=k+1+1:=⟨Tryz.prog.types.size-1,by have h:(65:Nat) < Tryz.prog.types.size:=row30;omega⟩
  have hl:=lits30 k h
  rw[<-hk] at hl
  refine⟨.string (keyBytes [.int .i64 p.back,.int .i64 p.coords,.int .i64 p.x,.int .i64 p.y]),?_⟩
  unfold keyOf
  rw[Tryz.underlying65]
  simp only[keyType30,hf,Bool.and_self,if_true,Value.cells,hl,Option.map_some]
 obtain⟨l,hl⟩:=this
 unfold kl
 rw[hl];rfl
theorem kl_inj {p q:Plc}(hp:p.wf)(hq:q.wf)(h:kl p=kl q):p=q:=by
 have h1:=key_some hp
 have h2:=key_some hq
 rw[<-h] at h2
 have:=law30.inj h1 h2
 simp[pcells] at this
 cases p;cases q
 simp_all
theorem kl_key {p:Plc}(hp:p.wf):WideAt.IsKeyLit (kl p):=law30.key (key_some hp)
def look (L:List Plc)(pre:List (Fin 64))(p:Plc):Option Nat:=pre.foldl (fun r i=>if L.getD i.val zp=p then some i.val else r) none
theorem look_snoc (L:List Plc)(pre:List (Fin 64))(i:Fin 64)(p:Plc):look L (pre++[i]) p=if L.getD i.val zp=p then some i.val else look L pre p:=by simp[look]
def Tab (L:List Plc)(pre:List (Fin 64))(D:DataW Unit):Prop :=
 IsMap D/\∀ p:Plc,p.wf->has D (kl p)=(look L pre p).isSome/\D.atKey (kl p) (.lit (.int .i64 0))=.lit (.int .i64 (((look L pre p).getD 0:Nat):Int))
theorem Tab.nil (L:List Plc):Tab L [] (.map []):=⟨⟨_,rfl⟩,fun p _=>⟨rfl,rfl⟩⟩
theorem Tab.snoc {L:List Plc}{pre:List (Fin 64)}{D:DataW Unit}(h:Tab L pre D)(i:Fin 64)(hi:(L.getD i.val zp).wf):Tab L (pre++[i]) (D.put (kl (L.getD i.val zp)) (.lit (.int .i64 ((i.val:Nat):Int)))):=by
 refine⟨h.1.put _ _,fun p hp=>?_⟩
 rw[look_snoc]
 by_cases e:L.getD i.val zp=p
 ·rw[if_pos e,e,has_put_same h.1 (kl_key hp),atKey_put_same h.1 (kl_key hp)]
  exact⟨rfl,rfl⟩
 ·rw[if_neg e]
  have hne:kl p≠kl (L.getD i.val zp):=fun h'=>e (kl_inj hp hi h').symm
  rw[has_put_other hne,atKey_put_other hne]
  exact h.2 p hp
theorem plcs_wf (f d:Int):∀ p ∈ plcs f d,p.wf:=by
 unfold plcs
 rcases kind3 f d with⟨hm,rfl⟩|⟨hm,rfl⟩|hm
 ·have e:blks 0 d=imageB:=by simp[blks,hm]
  rw[e];unfold Plc.wf wf64;decide
 ·have e:blks 1 d=soundB:=by simp[blks,hm]
  rw[e];unfold Plc.wf wf64;decide
 ·have e:blks f d=[]:=by simp[blks,hm]
  rw[e];simp[plsAll]
theorem getD_wf (f d:Int)(i:Nat):((plcs f d).getD i zp).wf:=by
 by_cases h:i < (plcs f d).length
 ·have e:(plcs f d).getD i zp=(plcs f d)[i]:=by simp[List.getD,h]
  rw[e];exact plcs_wf f d _ (List.getElem_mem h)
 ·simp[List.getD,h,zp,Plc.wf,wf64]
end Go.Proofs.YtimdcmponhcngaaGreat.Knd
namespace Go.Proofs.YtimdcmponhcngaaGreat.Knd
open Go.RowKit Go.Shelf Go.Maps
set_option linter.unusedVariables false
set_option maxRecDepth 100000
set_option maxHeartbeats 16000000
attribute [local go_sem] Oper.semAt_some
theorem bsz {w w2:World}{o:Obj}(h:Below (w.alloc o).heap.size (w.alloc o) w2):w.heap.size < w2.heap.size:=by have:=h.size;simp at this;omega
theorem run_makeMap53 (c:Int)(w:World):(Instr.makeMap 131 (some (.int .i64 c))).run Tryz.prog w=.ok (.map (some w.heap.size)) (w.alloc (.map #[] 0)):=by
 simp[Instr.makeMap,run_underlying Tryz.underlying131,go_sem]
theorem numbers_in (m:Nat)(hm:6<=m)(f d:Int)(w:World) :
  CallsIn Fence.wide m Tryz.prog 85 #[.agg #[.int .i64 f,.int .i64 d]] w fun e w'=>∃ b D,e=.returned (.map (some b))/\w'.ownsMap Tryz.prog 65 (plainElem (H:=Unit) Tryz.prog 3) b 64 D/\Tab (plcs f d) (upto (plcs f d).length) D/\Below w.heap.size w w':=by
 have h1:1<=m:=by omega
 have hro:Fence.wide.round=none:=rfl
 have hmm:=run_makeMap53
 have hb:=bel1 w (.cells #[.int .i64 f,.int .i64 d] 23)
 refine callsIn_of_wp_marks Tryz.func85 rfl trivial ?_ hro
 simp only[Tryz.ntmps85,List.size_toArray,List.length_cons,List.length_nil,Nat.reduceAdd,Nat.reduceSub,Array.replicate_succ,Array.replicate_zero,List.push_toArray,List.append_toArray,List.nil_append,List.cons_append]
 gi_wp2_with (refine⟨trivial,?_⟩;first|(gi_at_call 52;refine(callsIn_wide.2 (all_any f d _)).mono ?_;rintro e w3 ⟨rfl,rfl⟩)|(gi_at_call 48;refine(callsIn_wide.2 (count_any f d _)).mono ?_;rintro e w2 ⟨rfl,hb2⟩;obtain⟨hc2,hf2⟩:=bcell hb2;have hz2:=bsz hb2))
 have HB2:=hide (bel hb hb2)
 have hKd:=HasC.new ((w2.alloc (.map #[] 0)).alloc (.cells #[.map (some w2.heap.size)] 131)) 23 #[.int .i64 f,.int .i64 d]
 have hLs:=(HasC.new (w2.alloc (.map #[] 0)) 131 #[.map (some w2.heap.size)]).alloc (.cells #[.int .i64 f,.int .i64 d] 23)
 have hM:=((World.ownsMap_made w2 Tryz.prog 65 (plainElem (H:=Unit) Tryz.prog 3)).alloc (.cells #[.map (some w2.heap.size)] 131)).alloc (.cells #[.int .i64 f,.int .i64 d] 23)
 have hsz:(((w2.alloc (.map #[] 0)).alloc (.cells #[.map (some w2.heap.size)] 131)).alloc (.cells #[.int .i64 f,.int .i64 d] 23)).heap.size=w2.heap.size+3:=by simp
 have hB0:Below w.heap.size w (((w2.alloc (.map #[] 0)).alloc (.cells #[.map (some w2.heap.size)] 131)).alloc (.cells #[.int .i64 f,.int .i64 d] 23)) :=
  ((HB2.out.alloc HB2.out.size _).alloc (by have:=HB2.out.size;simp;omega) _).alloc (by have:=HB2.out.size;simp;omega) _
 simp only[World.size_alloc] at hKd hLs
 obtain⟨W0,hW0⟩:∃ W0,(((w2.alloc (.map #[] 0)).alloc (.cells #[.map (some w2.heap.size)] 131)).alloc (.cells #[.int .i64 f,.int .i64 d] 23))=W0:=⟨_,rfl⟩
 rw[hW0] at hKd hLs hM hsz hB0 ⊢
 clear hW0 hc2 hf2 hb2 hb HB2
 obtain⟨Z,hZ⟩:∃ Z,w2.heap.size=Z:=⟨_,rfl⟩
 rw[hZ] at hKd hLs hM hsz hz2 ⊢
 clear hZ
 obtain⟨L,hL⟩:∃ L,L=plcs f d:=⟨_,rfl⟩
 have HL:=hide hL
 have hseq:=all_stops (m-1) (by omega) (Z+1+1) W0.heap.size f d W0 (by omega) (Nat.le_refl _) (hKd.cell 0 rfl) (hKd.cell 1 rfl)
 rw[<-hL] at hseq
 clear hL
 refine wpIn_rangeFunc_ownH hro h1 (gf:=83) (lb:=#[.pointer (some ⟨Z+1+1,0,none⟩)]) rfl trivial (enters_of Tryz.func83 (by kernel_rfl) rfl)
  hseq (fun h k=>h.trans k) keepsIn_b (Below.refl _ _) (fun _=>rfl)
  (fun pre W=>(HasC W (Z+1) 131 #[.map (some Z)]/\∃ D,W.ownsMap Tryz.prog 65 (plainElem (H:=Unit) Tryz.prog 3) Z pre.length D/\Tab L pre D)/\Below w.heap.size w W)
  (fun _ _ _=>False)
  (OwnFrom.and (OwnFrom.and (ownFrom_hasC _ _ _) (fun s X Y row hs hg hr=>by
   obtain⟨D,h1,h2⟩:=hs
   exact⟨D,h1.kept hg (fun e=>by have:=(hr _ e.symm).1;omega),h2⟩)) (ownFrom_below (Nat.le_refl _) (by omega)))
  (fun _ _ _ _ _ hs _ _=>hs)
  ⟨⟨hLs,_,hM,Tab.nil L⟩,hB0⟩
  (fun x a' W=>∃ Bx,Z+1 < Bx/\HasC W Bx 65 (pcells (L.getD x.val zp))/\a'={ tmps:=#[.agg #[.int .i64 f,.int .i64 d],.pointer (some ⟨w.heap.size,0,none⟩),.map none,.pointer (some ⟨Z+1,0,none⟩),.int .i64 (x.val:Int),.pointer (some ⟨Bx,0,none⟩),.agg #[.int .i64 f,.int .i64 d],.int .i64 (countZ f d),.map (some Z),.agg #[.int .i64 f,.int .i64 d],.func (.func 83) #[] #[.pointer (some ⟨Z+1+1,0,none⟩)],.int .i64 (x.val:Int),.agg (pcells (L.getD x.val zp)),undef,undef,undef,undef],defers:=[] })
  (fun x a' _ X Y row hs hg hr=>by obtain⟨Bx,h1,h2,h3⟩:=hs;exact⟨Bx,h1,hasC_own Bx 65 (fun(_:Unit)=>pcells (L.getD x.val zp)) () X Y row h2 hg (fun r e=>(hr r e).2),h3⟩)
  ?assign ?body ?done ?stop
 case assign =>
  rintro l pre x W K ⟨⟨hLs1,D,hM1,hT1⟩,hB1⟩ hK
  simp only[encs]
  gi_wp2
  exact hK _ _ ((KeepsOthers.alloc _ _).from _) (KeepsIn.of_below (bel1 _ _)) ⟨⟨hLs1.alloc _,D,hM1.alloc _,hT1⟩,hB1.alloc hB1.size _⟩ ⟨W.heap.size,hLs1.lt,HasC.new W 65 _,rfl⟩
 case body =>
  rintro l pre x a' W hl ⟨r,hr⟩ ⟨⟨hLs1,D,hM1,hT1⟩,hB1⟩ ⟨Bx,hBx,hX,rfl⟩ hlt
  have cL:=hLs1.cell 0 rfl
  obtain⟨p,hp0⟩:∃ p,p=L.getD x.val zp:=⟨_,rfl⟩
  have hpw:p.wf:=by rw[hp0,HL.out];exact getD_wf f d _
  rw[<-hp0] at hX ⊢
  have HP:=hide hp0
  have HT:=hide hT1
  have HM:=hide hM1
  clear hp0 hT1 hM1
  have cx0:W.cell? ⟨Bx,0,none⟩=some (.int .i64 p.back):=hX.cell 0 rfl
  have cx1:W.cell? ⟨Bx,1,none⟩=some (.int .i64 p.coords):=hX.cell 1 rfl
  have cx2:W.cell? ⟨Bx,2,none⟩=some (.int .i64 p.x):=hX.cell 2 rfl
  have cx3:W.cell? ⟨Bx,3,none⟩=some (.int .i64 p.y):=hX.cell 3 rfl
  have hl64:pre.length < 64:=by have:=(blks_bound f d).1;rw[<-HL.out] at this;omega
  gi_wp2_with (gi_at_mapUpdate;refine wpListIn_mapUpdate_own _ rfl _ _ _ 131 rfl 65 3 law30 Tryz.underlying131 _ Z pre.length _ rfl HM.out (by unfold maxLen;omega) _ _ _ rfl rfl (key_some hpw) _ [] (plainElem_int Tryz.underlying3 (wf64_lit (n:=(x.val:Int)) (by unfold wf64;omega))) ?_;intro w1 hown1 hgrow1)
  exact⟨KeepsFrom.of_grownBy hgrow1 (fun j e=>by cases e;omega),KeepsIn.of_grownBy hgrow1 (fun j e=>by cases e;exact .inl (by omega)),
   ⟨hLs1.kept hgrow1 (by simp),_,by rw[List.length_append];exact hown1,by have h:=HT.out.snoc x (by rw[<-HP.out];exact hpw);rw[<-HP.out] at h;exact h⟩,hB1.grown hgrow1 hB1.size (fun k e=>by cases e;omega)⟩
 case done =>
  rintro D0 ys W hD rfl ⟨⟨hLs1,D,hM1,hT1⟩,hB1⟩ hK
  have cL:=hLs1.cell 0 rfl
  have hle:=(blks_bound f d).1
  rw[<-HL.out] at hle
  rw[upto_len _ (by omega)] at hM1
  gi_wp2
  refine⟨by simp,.inl ⟨_,_,rfl,run_takeDeferred hK,?_⟩⟩
  refine⟨_,results_tmp rfl _ _ _,Z,D,rfl,(hM1.mono (by omega)).kept (grownBy_putObj' _ D0 _) (fun e=>by cases e;omega),by rw[<-HL.out];exact hT1,hB1.trans (belowK_b (w:=w) (Nat.le_refl _) W D0 _ _ (by omega) hK rfl rfl)⟩
 case stop =>
  rintro D c pre W _ _ h _
  exact h.elim
theorem numbers_any (f d:Int)(w:World) :
  Calls Tryz.prog 85 #[.agg #[.int .i64 f,.int .i64 d]] w fun e w'=>∃ b D,e=.returned (.map (some b))/\w'.ownsMap Tryz.prog 65 (plainElem (H:=Unit) Tryz.prog 3) b 64 D/\Tab (plcs f d) (upto (plcs f d).length) D/\Below w.heap.size w w' :=
 callsIn_wide.1 (numbers_in 6 (Nat.le_refl _) f d w)
def numZ (f d:Int)(p:Plc):Option Nat:=look (plcs f d) (upto (plcs f d).length) p
def numV (f d:Int)(p:Plc):Value:=.tuple #[.int .i64 (((numZ f d p).getD 0:Nat):Int),.bool (numZ f d p).isSome]
theorem look30 {f d:Int}{p:Plc}(hp:p.wf){w2:World}{b:Nat}{D:DataW Unit}(hM:w2.ownsMap Tryz.prog 65 (plainElem (H:=Unit) Tryz.prog 3) b 64 D)(hT:Tab (plcs f d) (upto (plcs f d).length) D) :
  ∃ c q,(Instr.lookup 131 (.map (some b)) (.agg #[.int .i64 p.back,.int .i64 p.coords,.int .i64 p.x,.int .i64 p.y]) true).run Tryz.prog w2=.ok (.tuple #[.int .i64 c,.bool q]) w2/\Hid (.tuple #[.int .i64 c,.bool q]=numV f d p):=by
 obtain⟨v,ps,hrun,hv⟩:=hM.look_ok law30 Tryz.underlying131 (Tryz.zeroValue3 w2) (plainElem_int Tryz.underlying3 (wf64_lit (n:=0) (by unfold wf64;omega))) (key_some hp)
 obtain⟨c,rfl,hc,hwc⟩:=plainElem_int_inv Tryz.underlying3 hv
 obtain⟨t1,t2⟩:=hT.2 p hp
 have hc1:D.atKey (kl p) (.lit (.int .i64 0))=.lit (.int .i64 c):=congrArg Prod.fst hc
 rw[t2] at hc1
 simp at hc1
 refine⟨_,_,hrun,?_⟩
 unfold Hid
 rw[t1,<-hc1]
 rfl
theorem number_any (f d:Int)(p:Plc)(hp:p.wf)(w:World) :
  Calls Tryz.prog 56 #[.agg #[.int .i64 f,.int .i64 d],.agg #[.int .i64 p.back,.int .i64 p.coords,.int .i64 p.x,.int .i64 p.y]] w fun e w'=>e=.returned (numV f d p)/\Below w.heap.size w w':=by
 have hb:=(bel1 w (.cells #[.int .i64 f,.int .i64 d] 23)).alloc (by simp) (.cells #[.int .i64 p.back,.int .i64 p.coords,.int .i64 p.x,.int .i64 p.y] 65)
 go_enter Tryz.func56,Tryz.ntmps56
 go_wp2
 go_region_with (go_at_call 85;refine(numbers_any _ _ _).mono ?_;rintro e w2 ⟨b,D,rfl,hM,hT,hb2⟩;obtain⟨hc2,hf2⟩:=bcell hb2;obtain⟨c,q,hrun,hv⟩:=look30 hp hM hT)
 all_goals go_simp
 all_goals go_wp2
 all_goals go_ret2
 all_goals exact⟨by rw[<-hv.out];rfl,bel hb.drew hb2⟩
end Go.Proofs.YtimdcmponhcngaaGreat.Knd
namespace Go.Proofs.YtimdcmponhcngaaGreat.Knd
open Go.RowKit Go.Sort
set_option linter.unusedVariables false
set_option maxRecDepth 100000
set_option maxHeartbeats 16000000
def Lies (f d i n:Int):Prop:=∃ lo hi,inZ f d i=some (lo,hi)/\lo<=n/\n<=hi
theorem lies_ok (f d i n:Int)(w:World)(h:Lies f d i n) :
  Calls Tryz.prog 47 #[.agg #[.int .i64 f,.int .i64 d],.int .i64 i,.int .i64 n] w fun e w'=>e=.returned (.bool true)/\Below w.heap.size w w':=by
 obtain⟨lo,hi,hz,h1,h2⟩:=h
 have HB1:=hide (bel1 w (.cells #[.int .i64 f,.int .i64 d] 23))
 have HV:Hid (inV f d i=.tuple #[.agg #[.int .i64 lo,.int .i64 hi],.bool true]):=by unfold Hid;rw[inV,hz];rfl
 clear hz
 go_enter Tryz.func47,Tryz.ntmps47
 go_wp2_with (go_at_call 78;refine(input_any f d i _).mono ?_;rintro e w2 ⟨rfl,hb2⟩;rw[HV.out])
 go_ret
 exact⟨rfl,(bel HB1.out hb2).alloc (bel HB1.out hb2).size _⟩
theorem lies_bad (f d i n:Int)(w:World)(h:¬Lies f d i n) :
  Calls Tryz.prog 47 #[.agg #[.int .i64 f,.int .i64 d],.int .i64 i,.int .i64 n] w fun e w'=>e=.returned (.bool false)/\Below w.heap.size w w':=by
 have HB1:=hide (bel1 w (.cells #[.int .i64 f,.int .i64 d] 23))
 cases hz:inZ f d i with
 | none =>
  have HV:Hid (inV f d i=.tuple #[.agg #[.int .i64 0,.int .i64 0],.bool false]):=by unfold Hid;rw[inV,hz];rfl
  clear hz h
  go_enter Tryz.func47,Tryz.ntmps47
  go_wp2_with (go_at_call 78;refine(input_any f d i _).mono ?_;rintro e w2 ⟨rfl,hb2⟩;rw[HV.out])
  go_ret
  exact⟨rfl,(bel HB1.out hb2).alloc (bel HB1.out hb2).size _⟩
 | some q =>
  obtain⟨lo,hi⟩:=q
  have HV:Hid (inV f d i=.tuple #[.agg #[.int .i64 lo,.int .i64 hi],.bool true]):=by unfold Hid;rw[inV,hz];rfl
  have hn:¬(lo<=n/\n<=hi):=fun h'=>h ⟨lo,hi,hz,h'.1,h'.2⟩
  clear hz h
  by_cases h1:lo<=n
  ·have h2:decide (n<=hi)=false:=by simp;omega
   clear hn
   go_enter Tryz.func47,Tryz.ntmps47
   go_wp2_with (go_at_call 78;refine(input_any f d i _).mono ?_;rintro e w2 ⟨rfl,hb2⟩;rw[HV.out])
   go_ret
   exact⟨rfl,(bel HB1.out hb2).alloc (bel HB1.out hb2).size _⟩
  ·have h2:decide (lo<=n)=false:=by simp;omega
   clear hn
   go_enter Tryz.func47,Tryz.ntmps47
   go_wp2_with (go_at_call 78;refine(input_any f d i _).mono ?_;rintro e w2 ⟨rfl,hb2⟩;rw[HV.out])
   go_ret
   exact⟨rfl,(bel HB1.out hb2).alloc (bel HB1.out hb2).size _⟩
def Fit (f d x y c:Int)(zs:List Int):Prop :=
 ((Lies f d 0 x/\Lies f d 1 y)/\Lies f d 2 c)/\(zs.length:Int)=countZ f d/\∀ z ∈ zs,lowZ f d<=z/\z<=highZ f d
open Classical in
noncomputable def fitE (f d x y c:Int)(zs:List Int):Int:=if Fit f d x y c zs then 0 else 1
theorem factsW {W:World}{b:Nat}{t:TypeId}{x y c p:Value}(h:HasC W b t #[x,y,c,p]):W.cell? ⟨b,0,none⟩=some x/\W.cell? ⟨b,1,none⟩=some y/\W.cell? ⟨b,2,none⟩=some c/\W.cell? ⟨b,3,none⟩=some p :=
 ⟨h.cell 0 rfl,h.cell 1 rfl,h.cell 2 rfl,h.cell 3 rfl⟩
theorem mixed':Tryz.prog.follows .mixedOrders=true:=by kernel_rfl
theorem fits_x (f d x y c:Int)(a:Option Addr)(n cap:Nat)(w:World)(hx:¬Lies f d 0 x) :
  Calls Tryz.prog 21 #[.agg #[.int .i64 f,.int .i64 d],.agg #[.int .i64 x,.int .i64 y,.int .i64 c,.slice a n cap]] w fun e w'=>e=.returned (.int .i64 1)/\Below w.heap.size w w':=by
 have HB1:=hide ((bel1 w (.cells #[.int .i64 f,.int .i64 d] 23)).alloc (by simp) (.cells #[.int .i64 x,.int .i64 y,.int .i64 c,.slice a n cap] 30))
 have HK1:=hide ((HasC.new w 23 #[.int .i64 f,.int .i64 d]).alloc (.cells #[.int .i64 x,.int .i64 y,.int .i64 c,.slice a n cap] 30))
 have hP:HasC ((w.alloc (.cells #[.int .i64 f,.int .i64 d] 23)).alloc (.cells #[.int .i64 x,.int .i64 y,.int .i64 c,.slice a n cap] 30)) (w.heap.size+1) 30 #[.int .i64 x,.int .i64 y,.int .i64 c,.slice a n cap]:=by
  have:=HasC.new (w.alloc (.cells #[.int .i64 f,.int .i64 d] 23)) 30 #[.int .i64 x,.int .i64 y,.int .i64 c,.slice a n cap]
  rwa[World.size_alloc] at this
 have HP1:=hide hP
 clear hP
 go_enter Tryz.func21,Tryz.ntmps21
 go_wp2_with fail
 refine(lies_bad f d 0 x _ hx).mono ?_
 rintro e w2 ⟨rfl,hb2⟩
 have HK2:=hide (HK1.out.below hb2)
 have HP2:=hide (HP1.out.below hb2)
 have HB2:=hide (bel HB1.out hb2)
 clear hb2 HK1 HP1 HB1
 obtain⟨x2,y2,-,-⟩:=facts2 HK2.out
 obtain⟨p2,q2,r2,t2⟩:=factsW HP2.out
 go_wp2
 go_ret
 exact⟨rfl,HB2.out⟩
theorem fits_y (f d x y c:Int)(a:Option Addr)(n cap:Nat)(w:World)(hx:Lies f d 0 x)(hy:¬Lies f d 1 y) :
  Calls Tryz.prog 21 #[.agg #[.int .i64 f,.int .i64 d],.agg #[.int .i64 x,.int .i64 y,.int .i64 c,.slice a n cap]] w fun e w'=>e=.returned (.int .i64 1)/\Below w.heap.size w w':=by
 have HB1:=hide ((bel1 w (.cells #[.int .i64 f,.int .i64 d] 23)).alloc (by simp) (.cells #[.int .i64 x,.int .i64 y,.int .i64 c,.slice a n cap] 30))
 have HK1:=hide ((HasC.new w 23 #[.int .i64 f,.int .i64 d]).alloc (.cells #[.int .i64 x,.int .i64 y,.int .i64 c,.slice a n cap] 30))
 have hP:HasC ((w.alloc (.cells #[.int .i64 f,.int .i64 d] 23)).alloc (.cells #[.int .i64 x,.int .i64 y,.int .i64 c,.slice a n cap] 30)) (w.heap.size+1) 30 #[.int .i64 x,.int .i64 y,.int .i64 c,.slice a n cap]:=by
  have:=HasC.new (w.alloc (.cells #[.int .i64 f,.int .i64 d] 23)) 30 #[.int .i64 x,.int .i64 y,.int .i64 c,.slice a n cap]
  rwa[World.size_alloc] at this
 have HP1:=hide hP
 clear hP
 go_enter Tryz.func21,Tryz.ntmps21
 go_wp2_with fail
 refine(lies_ok f d 0 x _ hx).mono ?_
 rintro e w2 ⟨rfl,hb2⟩
 have HK2:=hide (HK1.out.below hb2)
 have HP2:=hide (HP1.out.below hb2)
 have HB2:=hide (bel HB1.out hb2)
 clear hb2 HK1 HP1 HB1
 obtain⟨x2,y2,-,-⟩:=facts2 HK2.out
 obtain⟨p2,q2,r2,t2⟩:=factsW HP2.out
 go_wp2_with fail
 refine(lies_bad f d 1 y _ hy).mono ?_
 rintro e w3 ⟨rfl,hb3⟩
 have HK3:=hide (HK2.out.below hb3)
 have HP3:=hide (HP2.out.below hb3)
 have HB3:=hide (bel HB2.out hb3)
 clear hb3 HK2 HP2 HB2
 obtain⟨x3,y3,-,-⟩:=facts2 HK3.out
 obtain⟨p3,q3,r3,t3⟩:=factsW HP3.out
 go_wp2
 go_ret
 exact⟨rfl,HB3.out⟩
theorem fits_c (f d x y c:Int)(a:Option Addr)(n cap:Nat)(w:World)(hx:Lies f d 0 x)(hy:Lies f d 1 y)(hc:¬Lies f d 2 c) :
  Calls Tryz.prog 21 #[.agg #[.int .i64 f,.int .i64 d],.agg #[.int .i64 x,.int .i64 y,.int .i64 c,.slice a n cap]] w fun e w'=>e=.returned (.int .i64 1)/\Below w.heap.size w w':=by
 have HB1:=hide ((bel1 w (.cells #[.int .i64 f,.int .i64 d] 23)).alloc (by simp) (.cells #[.int .i64 x,.int .i64 y,.int .i64 c,.slice a n cap] 30))
 have HK1:=hide ((HasC.new w 23 #[.int .i64 f,.int .i64 d]).alloc (.cells #[.int .i64 x,.int .i64 y,.int .i64 c,.slice a n cap] 30))
 have hP:HasC ((w.alloc (.cells #[.int .i64 f,.int .i64 d] 23)).alloc (.cells #[.int .i64 x,.int .i64 y,.int .i64 c,.slice a n cap] 30)) (w.heap.size+1) 30 #[.int .i64 x,.int .i64 y,.int .i64 c,.slice a n cap]:=by
  have:=HasC.new (w.alloc (.cells #[.int .i64 f,.int .i64 d] 23)) 30 #[.int .i64 x,.int .i64 y,.int .i64 c,.slice a n cap]
  rwa[World.size_alloc] at this
 have HP1:=hide hP
 clear hP
 go_enter Tryz.func21,Tryz.ntmps21
 go_wp2_with fail
 refine(lies_ok f d 0 x _ hx).mono ?_
 rintro e w2 ⟨rfl,hb2⟩
 have HK2:=hide (HK1.out.below hb2)
 have HP2:=hide (HP1.out.below hb2)
 have HB2:=hide (bel HB1.out hb2)
 clear hb2 HK1 HP1 HB1
 obtain⟨x2,y2,-,-⟩:=facts2 HK2.out
 obtain⟨p2,q2,r2,t2⟩:=factsW HP2.out
 go_wp2_with fail
 refine(lies_ok f d 1 y _ hy).mono ?_
 rintro e w3 ⟨rfl,hb3⟩
 have HK3:=hide (HK2.out.below hb3)
 have HP3:=hide (HP2.out.below hb3)
 have HB3:=hide (bel HB2.out hb3)
 clear hb3 HK2 HP2 HB2
 obtain⟨x3,y3,-,-⟩:=facts2 HK3.out
 obtain⟨p3,q3,r3,t3⟩:=factsW HP3.out
 go_wp2_with fail
 refine(lies_bad f d 2 c _ hc).mono ?_
 rintro e w4 ⟨rfl,hb4⟩
 have HK4:=hide (HK3.out.below hb4)
 have HP4:=hide (HP3.out.below hb4)
 have HB4:=hide (bel HB3.out hb4)
 clear hb4 HK3 HP3 HB3
 obtain⟨x4,y4,-,-⟩:=facts2 HK4.out
 obtain⟨p4,q4,r4,t4⟩:=factsW HP4.out
 go_wp2
 go_ret
 exact⟨rfl,HB4.out⟩
theorem fits_n (f d x y c:Int)(a:Option Addr)(n cap:Nat)(w:World)(hx:Lies f d 0 x)(hy:Lies f d 1 y)(hc:Lies f d 2 c)(hn:((n:Nat):Int)≠countZ f d) :
  Calls Tryz.prog 21 #[.agg #[.int .i64 f,.int .i64 d],.agg #[.int .i64 x,.int .i64 y,.int .i64 c,.slice a n cap]] w fun e w'=>e=.returned (.int .i64 1)/\Below w.heap.size w w':=by
 have HB1:=hide ((bel1 w (.cells #[.int .i64 f,.int .i64 d] 23)).alloc (by simp) (.cells #[.int .i64 x,.int .i64 y,.int .i64 c,.slice a n cap] 30))
 have HK1:=hide ((HasC.new w 23 #[.int .i64 f,.int .i64 d]).alloc (.cells #[.int .i64 x,.int .i64 y,.int .i64 c,.slice a n cap] 30))
 have hP:HasC ((w.alloc (.cells #[.int .i64 f,.int .i64 d] 23)).alloc (.cells #[.int .i64 x,.int .i64 y,.int .i64 c,.slice a n cap] 30)) (w.heap.size+1) 30 #[.int .i64 x,.int .i64 y,.int .i64 c,.slice a n cap]:=by
  have:=HasC.new (w.alloc (.cells #[.int .i64 f,.int .i64 d] 23)) 30 #[.int .i64 x,.int .i64 y,.int .i64 c,.slice a n cap]
  rwa[World.size_alloc] at this
 have HP1:=hide hP
 clear hP
 go_enter Tryz.func21,Tryz.ntmps21
 go_wp2_with fail
 refine(lies_ok f d 0 x _ hx).mono ?_
 rintro e w2 ⟨rfl,hb2⟩
 have HK2:=hide (HK1.out.below hb2)
 have HP2:=hide (HP1.out.below hb2)
 have HB2:=hide (bel HB1.out hb2)
 clear hb2 HK1 HP1 HB1
 obtain⟨x2,y2,-,-⟩:=facts2 HK2.out
 obtain⟨p2,q2,r2,t2⟩:=factsW HP2.out
 go_wp2_with fail
 refine(lies_ok f d 1 y _ hy).mono ?_
 rintro e w3 ⟨rfl,hb3⟩
 have HK3:=hide (HK2.out.below hb3)
 have HP3:=hide (HP2.out.below hb3)
 have HB3:=hide (bel HB2.out hb3)
 clear hb3 HK2 HP2 HB2
 obtain⟨x3,y3,-,-⟩:=facts2 HK3.out
 obtain⟨p3,q3,r3,t3⟩:=factsW HP3.out
 go_wp2_with fail
 refine(lies_ok f d 2 c _ hc).mono ?_
 rintro e w4 ⟨rfl,hb4⟩
 have HK4:=hide (HK3.out.below hb4)
 have HP4:=hide (HP3.out.below hb4)
 have HB4:=hide (bel HB3.out hb4)
 clear hb4 HK3 HP3 HB3
 obtain⟨x4,y4,-,-⟩:=facts2 HK4.out
 obtain⟨p4,q4,r4,t4⟩:=factsW HP4.out
 have hn':(((n:Nat):Int) != countZ f d)=true:=by simp[hn]
 go_wp2
 have k0:=cell_regrown x4
 have k1:=cell_regrown y4
 have k2:=cell_regrown t4
 refine wp_region_quiet_below mixed' (by kernel_rfl) ?_
 repeat (first|go_big_quiet_step (first
  | (go_at_call 48;exact Calls.regrown_of (count_any _ _ _))))
 refine wpQuiet_nil ?_
 intro _ hw'
 obtain⟨⟨dq,osq⟩,hw''⟩:=hw'
 subst hw''
 go_wp2
 go_ret
 exact⟨rfl,bel HB4.out (below_regrown _ _ _)⟩
theorem fits_e (f d x y c:Int)(a:Option Addr)(n cap:Nat)(zs:List Int)(w:World)(hZ:Ints w a n cap zs)(hx:Lies f d 0 x)(hy:Lies f d 1 y)(hc:Lies f d 2 c)(hn:((n:Nat):Int)=countZ f d) :
  Calls Tryz.prog 21 #[.agg #[.int .i64 f,.int .i64 d],.agg #[.int .i64 x,.int .i64 y,.int .i64 c,.slice a n cap]] w fun e w'=>((e=.returned (.int .i64 0)/\∀ z ∈ zs,lowZ f d<=z/\z<=highZ f d)\/(e=.returned (.int .i64 1)/\∃ z ∈ zs,¬(lowZ f d<=z/\z<=highZ f d)))/\Below w.heap.size w w':=by
 have HZ1:=hide hZ
 clear hZ
 have HB1:=hide ((bel1 w (.cells #[.int .i64 f,.int .i64 d] 23)).alloc (by simp) (.cells #[.int .i64 x,.int .i64 y,.int .i64 c,.slice a n cap] 30))
 have HK1:=hide ((HasC.new w 23 #[.int .i64 f,.int .i64 d]).alloc (.cells #[.int .i64 x,.int .i64 y,.int .i64 c,.slice a n cap] 30))
 have hP:HasC ((w.alloc (.cells #[.int .i64 f,.int .i64 d] 23)).alloc (.cells #[.int .i64 x,.int .i64 y,.int .i64 c,.slice a n cap] 30)) (w.heap.size+1) 30 #[.int .i64 x,.int .i64 y,.int .i64 c,.slice a n cap]:=by
  have:=HasC.new (w.alloc (.cells #[.int .i64 f,.int .i64 d] 23)) 30 #[.int .i64 x,.int .i64 y,.int .i64 c,.slice a n cap]
  rwa[World.size_alloc] at this
 have HP1:=hide hP
 clear hP
 go_enter Tryz.func21,Tryz.ntmps21
 go_wp2_with fail
 refine(lies_ok f d 0 x _ hx).mono ?_
 rintro e w2 ⟨rfl,hb2⟩
 have HK2:=hide (HK1.out.below hb2)
 have HP2:=hide (HP1.out.below hb2)
 have HB2:=hide (bel HB1.out hb2)
 clear hb2 HK1 HP1 HB1
 obtain⟨x2,y2,-,-⟩:=facts2 HK2.out
 obtain⟨p2,q2,r2,t2⟩:=factsW HP2.out
 go_wp2_with fail
 refine(lies_ok f d 1 y _ hy).mono ?_
 rintro e w3 ⟨rfl,hb3⟩
 have HK3:=hide (HK2.out.below hb3)
 have HP3:=hide (HP2.out.below hb3)
 have HB3:=hide (bel HB2.out hb3)
 clear hb3 HK2 HP2 HB2
 obtain⟨x3,y3,-,-⟩:=facts2 HK3.out
 obtain⟨p3,q3,r3,t3⟩:=factsW HP3.out
 go_wp2_with fail
 refine(lies_ok f d 2 c _ hc).mono ?_
 rintro e w4 ⟨rfl,hb4⟩
 have HK4:=hide (HK3.out.below hb4)
 have HP4:=hide (HP3.out.below hb4)
 have HB4:=hide (bel HB3.out hb4)
 clear hb4 HK3 HP3 HB3
 obtain⟨x4,y4,-,-⟩:=facts2 HK4.out
 obtain⟨p4,q4,r4,t4⟩:=factsW HP4.out
 have hn':(((n:Nat):Int) != countZ f d)=false:=by simp[hn]
 have HN:=hide hn
 clear hn
 go_wp2
 have k0:=cell_regrown x4
 have k1:=cell_regrown y4
 have k2:=cell_regrown t4
 refine wp_region_quiet_below mixed' (by kernel_rfl) ?_
 repeat (first|go_big_quiet_step (first
  | (go_at_call 48;exact Calls.regrown_of (count_any _ _ _))))
 refine wpQuiet_nil ?_
 intro _ hw'
 obtain⟨⟨dq,osq⟩,hw''⟩:=hw'
 have hb5:Below w4.heap.size w4 (grow (redrawn w4 dq) osq):=below_regrown _ _ _
 simp only at hw''
 rw[<-hw''] at hb5
 rename_i w5
 have HK5:=hide (HK4.out.below hb5)
 have HP5:=hide (HP4.out.below hb5)
 have HB5:=hide (bel HB4.out hb5)
 clear hw'' hb5 HK4 HP4 HB4 k0 k1 k2 x2 y2 p2 q2 r2 t2 x3 y3 p3 q3 r3 t3 x4 y4 p4 q4 r4 t4
 obtain⟨x5,y5,-,-⟩:=facts2 HK5.out
 obtain⟨p5,q5,r5,t5⟩:=factsW HP5.out
 go_wp2
 have k0:=cell_regrown x5
 have k1:=cell_regrown y5
 refine wp_region_quiet_below mixed' (by kernel_rfl) ?_
 repeat (first|go_big_quiet_step (first
  | (go_at_call 27;exact Calls.regrown_of (low_any _ _ _))
  | (go_at_call 28;exact Calls.regrown_of (high_any _ _ _))))
 refine wpQuiet_nil ?_
 intro w6 hw'
 obtain⟨⟨dq6,osq6⟩,hw''⟩:=hw'
 have hb6:Below w5.heap.size w5 (grow (redrawn w5 dq6) osq6):=below_regrown _ _ _
 simp only at hw''
 rw[<-hw''] at hb6
 have HP6:=hide (HP5.out.below hb6)
 have HB6:=hide (bel HB5.out hb6)
 clear hw'' hb6 HK5 HP5 HB5 k0 k1 x5 y5 p5 q5 r5 t5
 obtain⟨-,-,-,t6⟩:=factsW HP6.out
 have HZ6:=hide (HZ1.out.later HB6.out)
 obtain⟨hn1,hn2⟩:1<=n/\n<=44:=by
  obtain⟨lo,hi,hz,_⟩:=hx
  have hm:May f d:=Classical.byContradiction fun h'=>by simp[inZ,h'] at hz
  have h:=HN.out
  unfold countZ at h
  rw[if_pos hm] at h
  split at h <;> omega
 obtain⟨sb,so,rfl,-,hcell⟩:=HZ6.out.at (by omega)
 have HC:=hide hcell
 have HLen:Hid (zs.length=n):=HZ6.out.len
 clear hcell HZ1 HZ6
 go_wp2
 go_loop [41] (fun iv=>∃ k:Nat,k<=n/\iv=.int .i64 k/\Hid (∀ j,j < k->lowZ f d<=zs.getD j 0/\zs.getD j 0<=highZ f d)) (fun iv=>n-(intOf iv).toNat)
 case atStart=>exact⟨0,by omega,rfl,fun j hj=>by omega⟩
 case round =>
  obtain⟨k,hk,rfl,HA⟩:=hrel
  by_cases hlt:k < n
  ·have hck:=HC.out k hlt
   obtain⟨z,hz⟩:∃ z,zs.getD k 0=z:=⟨_,rfl⟩
   rw[hz] at hck
   have HZk:=hide hz
   have HM:Hid (z ∈ zs):=by
    unfold Hid
    rw[<-HZk.out]
    simp only[List.getD]
    rw[List.getElem?_eq_getElem (by have:=HLen.out;omega)]
    exact List.getElem_mem _
   clear hz
   by_cases h1:z < lowZ f d
   ·go_wp2
    go_ret
    exact⟨.inr ⟨rfl,z,HM.out,by omega⟩,HB6.out⟩
   ·by_cases h2:highZ f d < z
    ·go_wp2
     go_ret
     exact⟨.inr ⟨rfl,z,HM.out,by omega⟩,HB6.out⟩
    ·have h1':decide (z < lowZ f d)=false:=by simpa using h1
     have h2':decide (highZ f d < z)=false:=by simpa using h2
     go_wp2
     go_round
     case rel=>exact⟨k+1,by omega,by go_num,fun j hj=>by
      by_cases e:j=k
      ·subst e;rw[HZk.out];omega
      ·exact HA.out j (by omega)⟩
     case measure=>simp[intOf];omega
  ·obtain rfl:k=n:=by omega
   go_wp2
   go_ret
   refine⟨.inl ⟨rfl,fun z hz=>?_⟩,HB6.out⟩
   obtain⟨i,hi,rfl⟩:=List.getElem_of_mem hz
   have:=HA.out i (by have:=HLen.out;omega)
   simpa [List.getD,hi] using this
open Classical in
theorem fits_any (f d x y c:Int)(a:Option Addr)(n cap:Nat)(zs:List Int)(w:World)(hZ:Ints w a n cap zs) :
  Calls Tryz.prog 21 #[.agg #[.int .i64 f,.int .i64 d],.agg #[.int .i64 x,.int .i64 y,.int .i64 c,.slice a n cap]] w fun e w'=>e=.returned (.int .i64 (fitE f d x y c zs))/\Below w.heap.size w w':=by
 by_cases hx:Lies f d 0 x
 ·by_cases hy:Lies f d 1 y
  ·by_cases hc:Lies f d 2 c
   ·by_cases hn:((n:Nat):Int)=countZ f d
    ·refine(fits_e f d x y c a n cap zs w hZ hx hy hc hn).mono ?_
     rintro e w' ⟨h,hB⟩
     refine⟨?_,hB⟩
     rcases h with⟨rfl,h⟩|⟨rfl,z,hz,h⟩
     ·have hF:Fit f d x y c zs:=⟨⟨⟨hx,hy⟩,hc⟩,by rw[hZ.len];exact hn,h⟩
      rw[fitE,if_pos hF]
     ·have hF:¬Fit f d x y c zs:=fun hF=>h (hF.2.2 z hz)
      rw[fitE,if_neg hF]
    ·have hF:¬Fit f d x y c zs:=fun hF=>hn (by rw[<-hZ.len];exact hF.2.1)
     rw[fitE,if_neg hF]
     exact fits_n f d x y c a n cap w hx hy hc hn
   ·have hF:¬Fit f d x y c zs:=fun hF=>hc hF.1.2
    rw[fitE,if_neg hF]
    exact fits_c f d x y c a n cap w hx hy hc
  ·have hF:¬Fit f d x y c zs:=fun hF=>hy hF.1.1.2
   rw[fitE,if_neg hF]
   exact fits_y f d x y c a n cap w hx hy
 ·have hF:¬Fit f d x y c zs:=fun hF=>hx hF.1.1.1
  rw[fitE,if_neg hF]
  exact fits_x f d x y c a n cap w hx
end Go.Proofs.YtimdcmponhcngaaGreat.Knd
