import Derived.Test.YticnbcfmbhjbgaaGreatDoorX35
import Derived.Test.YticnbcfmbhjbgaaGreatDoorX38
import Derived.Test.YticnbcfmbhjbgaaGreatDoorX36
set_option maxRecDepth 100000
set_option maxHeartbeats 32000000
set_option linter.unusedVariables false
namespace Go.Proofs.Prn
section
open Go.RowKit Go.IntWalk Knd
open Cde (In i0 ia kd cd Ins sI aH aC aP aJ bE eH aF dL i6 zA aG)
variable {W:World} {base c g n:Nat} {D:List Int}
open Fld (own_ne)
open Fld (aU)
open Fld (kQ)
open YticnbcfmbhjbgaaGreatDoor (aB)
theorem aJn {p:Nat}(h:W.ownsRow base 3 1 (.slice (some ⟨g,0,none⟩) n c) n (iD D))(x:Int):(W.setCell ⟨g,p,none⟩ (.i x)).ownsRow base 3 1 (.slice (some ⟨g,0,none⟩) n c) n (iD (D.set p x)):=by
 obtain⟨hl,h2⟩:=h
 rcases h2 with⟨he,-⟩|⟨g',cap,cur,he,hb,hg,hnc,hcm,hsz,ht⟩
 ·cases he
 ·cases he
  refine⟨by simpa using hl,.inr ⟨g,c,cur.setIfInBounds p (.i x),rfl,hb,aB.set hg p _,hnc,hcm,by simpa using hsz,?_⟩⟩
  rw[Array.toList_setIfInBounds,List.take_set,ht]
  simp[List.map_set]
theorem qH {p:Nat}(h:W.ownsRow base 3 1 (.slice (some ⟨g,0,none⟩) n c) n (iD D))(hp:p < n):W.cell? ⟨g,p,none⟩=some (.i (D.getD p 0))/\W.frozen? ⟨g,p,none⟩=false:=by
 have hl:D.length=n:=by have:=h.1;simp at this;omega
 have hc:=h.cells (g:=g) rfl p (.i (D.getD p 0)) (by rw[gEm,gdE,gEg (by omega)];rfl)
 rw[Addr.add_lit,nZa] at hc
 refine⟨hc,?_⟩
 rcases h.2 with⟨he,-⟩|⟨g',cap,cur,he,hb,hg,hnc,hcm,hsz,ht⟩
 ·cases he
 ·cases he
  exact aB.frozen hg p
theorem aUg (h:W.ownsRow base 3 1 (.slice (some ⟨g,0,none⟩) n c) n (iD D)):D.length=n:=by have:=h.1;simp at this;omega
theorem aPq (h:W.ownsRow base 3 1 (.slice (some ⟨g,0,none⟩) n c) n (iD D)):base<=g/\n<=maxLen:=by
 refine⟨(h.lt g rfl).1,?_⟩
 rcases h.2 with⟨he,-⟩|⟨g',cap,cur,he,hb,hg,hnc,hcm,hsz,ht⟩
 ·cases he
 ·cases he
  omega
theorem aQ1 (h:W.ownsRow base 3 1 (.slice (some ⟨g,0,none⟩) n c) n (iD D)) :
  Calls Tryz.prog 360 #[.slice (some ⟨g,0,none⟩) n c] W fun e W'=>e=.returned (.tuple #[])/\W'.ownsRow base 3 1 (.slice (some ⟨g,0,none⟩) n c) n (iD D.reverse)/\Below base W W':=by
 have hl:=aUg h
 obtain⟨hg,hm⟩:=aPq h
 have hs:n<=9223372036854775807:=by unfold maxLen at hm;omega
 have HD:=aA h
 have HE:=aA fun k h1 h2=>aUz D (k:=k) h1 h2
 have HG:=aA hg
 have HL:=aA hl
 rw[hl] at HE
 clear h hl hm hg
 go_enter Tryz.func360,Tryz.ntmps360
 go_wp2_with fail
 go_loopw [2,3] (fun iv jv wr=>∃ k:Nat,2*k<=n/\iv=.i k/\jv=.i ((n:Int)-1-k)/\Hid (wr.ownsRow base 3 1 (.slice (some ⟨g,0,none⟩) n c) n (iD (rvK D k)))/\Hid (Below base W wr)) (fun iv _ _=>n-(intOf iv).toNat)
 case atStart=>exact⟨0,nZl _,rfl,by simp,HD,aA (Below.refl _ _)⟩
 case round =>
  obtain⟨k,hk,rfl,rfl,HO,HB⟩:=hrel
  rename World=>V
  by_cases hlt:(k:Int) < (n:Int)-1-k
  ·obtain⟨q,hq⟩:∃ q:Nat,(n:Int)-1-k=q:=⟨n-1-k,by omega⟩
   have hq':n-1-k=q:=by omega
   have HS:Hid (rvK D (k+1)=((rvK D k).set k ((rvK D k).getD q 0)).set q ((rvK D k).getD k 0)):=aA (by rw[rvK,HL.o,hq'])
   have hq1:q < n:=by omega
   have hk1:k < n:=by omega
   have hkq:k < q:=by omega
   rw[hq]
   obtain⟨ci,fi⟩:=qH HO.o hk1
   obtain⟨cj,fj⟩:=qH HO.o hq1
   generalize (rvK D k).getD k 0=x at *
   generalize (rvK D k).getD q 0=y at *
   have HO1:=aA (aJn (p:=q) (aJn (p:=k) HO.o y) x)
   rw[<-HS.o] at HO1
   have HB1:=aA ((HB.o.setCell (p:=⟨g,k,none⟩) (by have:=HG.o;simpa using this) (.i y)).setCell (p:=⟨g,q,none⟩) (by have:=HG.o;simpa using this) (.i x))
   have HN:Hid (((q:Int)-1)=(n:Int)-1-((k+1:Nat):Int)):=aA (by omega)
   have i0:(0:Int)<=k:=by omega
   have i1:(k:Int) < n:=by omega
   have i2:(0:Int)<=q:=by omega
   have i3:(q:Int) < n:=by omega
   have i4:decide ((k:Int) < (q:Int))=true:=by simpa using hkq
   have i5:decide (k < q)=true:=by simpa using hkq
   have HK2:Hid (2*(k+1)<=n):=aA (by omega)
   clear hlt hq hq' HS HO HB
   go_wp2_with fail
   go_region
   have HO2:=aA HO1.o.drew
   have HB2:=aA HB1.o.drew
   clear HO1 HB1 ci fi cj fj
   go_wp2_with fail
   go_roundw
   case rel=>exact⟨k+1,HK2.o,by go_num,by rw[<-HN.o],HO2,HB2⟩
   case measure=>simp[intOf];omega
  ·have hd:decide ((k:Int) < (n:Int)-1-k)=false:=by simpa using hlt
   have HF:=aA (HE.o k hk (by omega))
   go_wp2_with fail
   refine bodyPost_end (results_none rfl _ _ _) rfl ?_
   exact⟨rfl,by rw[<-List.map_reverse,<-HF.o];exact HO.o,HB.o⟩
abbrev bA (B:List Bool):Array Value:=(B.map Value.bool).toArray
theorem aB7 (B:List Bool)(i:Nat)(h:i < B.length):(bA B)[i]?=some (.bool (B.getD i false)):=by
 unfold bA
 rw[List.getElem?_toArray,gEm,gdE,gEg h]
 rfl
theorem bAq:(Tryz.prog.info? 4).map (fun i=>(i.zero,i.size,i.bytes))=some (some (.bool false),1,1):=by kernel_rfl
theorem aXs (n:Nat):madeCells #[.bool false] (n*1)=bA (List.replicate n false):=by
 apply Array.ext_getElem?
 intro i
 by_cases hi:i < n
 ·rw[aB7 _ _ (by simpa using hi)]
  unfold madeCells
  rw[Array.getElem?_map,Array.getElem?_eq_getElem (by simpa using hi)]
  have hz:(List.replicate n false).getD i false=false:=by
   rw[gdE,List.getElem?_replicate];split <;> rfl
  rw[hz]
  simp only[Array.getElem_range,Option.map_some]
  show some ((#[Value.bool false])[i % 1]!)=_
  rw[Nat.mod_one]
  rfl
 ·rw[Array.getElem?_eq_none (by rw[size_madeCells];omega),Array.getElem?_eq_none (by simp;omega)]
theorem aXv (n:Nat)(h:n<=1024)(w:World):(Instr.makeSlice 338 (.i n) (.i n)).run Tryz.prog w=.ok (.slice (some ⟨w.heap.size,0,none⟩) n n) (w.alloc (.cells (bA (List.replicate n false)) 4)):=by
 obtain⟨i0,hi,hz0,hz1,hz2⟩:=Spn.info_parts bAq
 have:=run_make w 338 4 i0 _ Tryz.underlying338 hi hz0 .i64 .i64 n n (by omega) (iLr _) (by rw[hz2];omega) (by omega)
 rw[hz1] at this
 simp only[iTn] at this
 have e:madeCells (Value.bool false).cells (n*1)=bA (List.replicate n false):=aXs n
 rw[e] at this
 exact this
theorem bBv {k:Nat}{B:List Bool}(h:aB W g 4 (bA B))(x:Bool):aB (W.setCell ⟨g,k,none⟩ (.bool x)) g 4 (bA (B.set k x)):=by
 have:=h.set k (.bool x)
 have e:(bA B).setIfInBounds k (.bool x)=bA (B.set k x):=by
  apply Array.toList_inj.1
  simp[List.map_set]
 rwa[e] at this
theorem aBd {V:World}{b off cap:Nat}{L:List In}(h:Ins V (some ⟨b,off,none⟩) n cap L):∀ i,i < n->sI V b (off+i*6) (L.getD i i0):=by
 intro i hi
 obtain⟨b',o',e,-,hc⟩:=h.at (by omega)
 cases e
 exact hc i hi
end
section
open Go.RowKit Go.IntWalk Knd
open Cde (In i0 ia kd cd Ins sI aH aC aP aJ bE eH aF dL i6 zA gZ aG eF dC abc mV kM)
variable {V W:World} {cv:Array Value} {g:Nat} {v:Value} {D:List Int}
open Fld (own_ne)
open Fld (aU)
open Fld (kQ)
open Fld (iE)
open YticnbcfmbhjbgaaGreatDoor (aB)
def liZ (f d:Int)(L:List In)(out:Int):List Int:=if kM f d L out=true then lvZ L out else[]
structure Ll (W V:World)(cv:Array Value)(g:Nat)(B:List Bool)(v:Value)(D:List Int):Prop where
 c:aB V W.heap.size 33 cv
 b:aB V g 4 (bA B)
 r:V.ownsRow W.heap.size 3 1 v D.length (iD D)
 lo:Below W.heap.size W V
 g0:W.heap.size < g
theorem Ll.below {W V V':World}{cv:Array Value}{g:Nat}{B:List Bool}{v:Value}{D:List Int}(h:Ll W V cv g B v D)(hb:Below V.heap.size V V'):Ll W V' cv g B v D:=⟨h.c.below hb,h.b.below hb,Cde.bI h.r hb,bel h.lo hb,h.g0⟩
theorem Ll.grow {V':World}{B:List Bool}{v':Value}{D':List Int}(h:Ll W V cv g B v D)(hg:V.grownBy V' v.ownBlock)(ho:V'.ownsRow W.heap.size 3 1 v' D'.length (iD D')):Ll W V' cv g B v' D' :=
 ⟨aU h.r hg h.c (by decide),aU h.r hg h.b (by decide),ho,h.lo.grown hg h.lo.size fun k hk=>(Cde.aR h.r k hk).1,h.g0⟩
theorem Ll.mark {B:List Bool}(h:Ll W V cv g B v D)(p:Nat):Ll W (V.setCell ⟨g,p,none⟩ (.bool true)) cv g (B.set p true) v D :=
 ⟨h.c.other (p:=⟨g,p,none⟩) (by have:=h.g0;simp;omega) _,bBv h.b true,ownsRow_setCell_other h.r (a:=⟨g,p,none⟩) (own_ne h.r h.b (by decide)) _,h.lo.setCell (p:=⟨g,p,none⟩) (by have:=h.g0;simp;omega) _,h.g0⟩
theorem Ll.row {B:List Bool}(h:Ll W V cv g B v D)(h0:D≠[]):∃ gl c,v=.slice (some ⟨gl,0,none⟩) D.length c:=by
 rcases h.r.2 with⟨-,he⟩|⟨g',cap,cur,he,-⟩
 ·exact absurd (List.eq_nil_of_length_eq_zero he) h0
 ·exact⟨g',cap,he⟩
theorem aLi (f d out:Int){a:Option Addr}{n cap:Nat}{L:List In}(hL:Ins W a n cap L) :
  Calls Tryz.prog 332 #[.agg (cd f d a n cap out)] W fun e W'=>∃ a' c',e=.returned (.slice a' (liZ f d L out).length c')/\W'.ownsRow W.heap.size 3 1 (.slice a' (liZ f d L out).length c') (liZ f d L out).length (iD (liZ f d L out))/\Below W.heap.size W W':=by
 have hb1:=aD W (.cells (cd f d a n cap out) 33)
 have HC0:=aA (aB.new W 33 (cd f d a n cap out))
 have HB0:=aA hb1
 have HCk:=aA (Cde.gF f d out (hL.later hb1))
 have HLI:=aA hL
 have HLn:=aA hL.len
 clear hb1
 rcases Cde.aKk f d L out with⟨hm,h0⟩|⟨hm,h0⟩
 ·rw[h0] at HCk
  have HP:=aA (aFo hm)
  obtain⟨-,m1,m2,o1,o2,hok⟩:=Cde.aQ hm
  rw[show liZ f d L out=lvZ L out from if_pos hm]
  obtain⟨Z,hZ⟩:∃ Z,lvZ L out=Z:=⟨_,rfl⟩
  obtain⟨dl,hdl⟩:∃ dl,Z.length=dl:=⟨_,rfl⟩
  rw[hZ,hdl]
  have HZ:=aA hZ
  have HDz:=aA hdl
  clear hZ hdl
  rw[HLn.o] at m1 m2 o2 hok
  obtain⟨o,rfl⟩:∃ o:Nat,out=o:=⟨out.toNat,by omega⟩
  have HOk:=aA hok
  have hmk:=aXv n (by omega)
  have HM0:=aA (Mk.top HP.o)
  have HJ0:=aA (aTr HP.o)
  rw[HLn.o] at HM0
  simp only[iTn] at HM0 HJ0
  have hon:o < n:=by omega
  obtain⟨b,off,rfl,-,-⟩:=hL.at (by omega)
  clear hm h0 hok hL
  go_enter Tryz.func332,Tryz.ntmps332
  go_wp2_with fail
  refine HCk.o.mono ?_
  rintro e V1 ⟨rfl,hb⟩
  have HC1:=aA (HC0.o.below hb)
  have HB1:=aA (bel HB0.o hb)
  obtain⟨c0,c1,c2,c3⟩:=aC HC1.o
  have hg0:=HC1.o.lt
  have HL2:Hid (Ll W (V1.alloc (.cells (bA (List.replicate n false)) 4)) (cd f d (some ⟨b,off,none⟩) n cap (o:Int)) V1.heap.size (List.replicate n false) (.slice none 0 0) []):=aA ⟨HC1.o.alloc _,aB.new V1 4 _,⟨rfl,.inl ⟨rfl,rfl⟩⟩,bel HB1.o (aD V1 _),hg0⟩
  clear hb HC0 HB0 HCk
  go_upto_region 4 with fail
  generalize V1.heap.size=g at *
  obtain⟨V2,hV2⟩:∃ V2,V1.alloc (.cells (bA (List.replicate n false)) 4)=V2:=⟨_,rfl⟩
  rw[hV2] at HL2 ⊢
  clear HC1 HB1 c0 c1 c2 c3 hmk hV2
  obtain⟨c0,c1,c2,c3⟩:=aC HL2.o.c
  have d0:=HL2.o.b.cell o (aB7 _ o (by simpa using hon))
  have y0:=HL2.o.b.frozen o
  have HL3:=aA (HL2.o.mark o)
  have t0:(0:Int)<=o:=by omega
  have t1:(o:Int) < n:=by omega
  have z3:(V2.setCell ⟨g,o,none⟩ (.bool true)).cell? ⟨W.heap.size,3,none⟩=some (.i o):=HL3.o.c.cell 3 rfl
  generalize (List.replicate n false).getD o false=x0 at d0
  generalize (List.replicate n false).set o true=B0 at *
  go_wp2_with fail
  clear HL2 d0 y0 c0 c1 c2 c3 z3
  go_loopw [4,5] (fun lv rv wr=>∃(j:Nat) (B:List Bool) (D:List Int),j<=o+1/\rv=.i ((j:Int)-1)/\Hid (Mk L (o:Int) j B)/\Hid (lvJ L (o:Int) j=D)/\Hid (Ll W wr (cd f d (some ⟨b,off,none⟩) n cap (o:Int)) g B lv D)) (fun _ rv _=>(intOf rv+1).toNat)
  case atStart=>exact⟨o+1,B0,[],nLr _,by go_num,HM0,HJ0,HL3⟩
  case round =>
   obtain⟨j,B,D,hj,rfl,HM,HJ,HL⟩:=hrel
   rename World=>V
   clear HL3 HM0 HJ0
   cases j with
   | zero =>
    have hz:=aOs L (o:Int)
    have hne:D≠[]:=by
     rintro rfl
     rw[HJ.o] at hz
     have:=(HP.o.last).2.1
     rw[<-aC2,<-hz] at this
     simp at this
    obtain⟨gl,lc,rfl⟩:=HL.o.row hne
    rw[HJ.o,HZ.o] at hz
    have hdl:D.length=dl:=by rw[<-HDz.o,<-hz,List.length_reverse]
    have hRv:=aQ1 HL.o.r
    rw[hz,hdl] at hRv
    rw[hdl]
    have HRv:=aA hRv
    have q0:((0:Nat):Int)-1=-1:=by omega
    rw[q0]
    clear hz hne hRv hdl
    go_wp2_with fail
    refine HRv.o.mono ?_
    rintro e V2 ⟨rfl,hO,hb⟩
    have HB9:=aA (HL.o.lo.trans hb)
    have HO9:=aA hO
    clear hO hb
    go_wp2_with fail
    go_ret
    exact⟨_,_,rfl,HO9.o,HB9.o⟩
   | succ j =>
    have hjn:j < n:=by omega
    have hBl:=HM.o.len
    rw[HLn.o] at hBl
    have d0:=HL.o.b.cell j (aB7 _ j (by omega))
    have q0:((j+1:Nat):Int)-1=j:=by omega
    rw[q0]
    have t0:(0:Int)<=j:=by omega
    have t1:(j:Int) < n:=by omega
    have HOne:=HM.o.one HP.o (i:=j) (nLr _)
    have HYes:=aA fun h=>HM.o.yes HP.o (by rw[HLn.o];exact hjn) h
    have HNo:=aA fun h=>HM.o.no HP.o (by rw[HLn.o];exact hjn) h
    have HJy:=aA fun h=>aTs HP.o (by rw[HLn.o];exact hjn) (HOne.1 h)
    have HJn:=aA fun(h:B.getD j false=false)=>aXp HP.o fun hc=>by rw[HOne.2 hc] at h;cases h
    rw[HJ.o] at HJy HJn
    obtain⟨x,hx⟩:∃ x,B.getD j false=x:=⟨_,rfl⟩
    rw[hx] at HYes HNo HJy HJn d0
    clear HOne q0 hx
    cases x
    ·have HM1:=aA (HNo.o rfl)
     have HJ1:=aA (HJn.o rfl)
     clear HYes HNo HJy HJn
     go_wp2_with fail
     go_roundw
     case rel=>exact⟨j,B,D,by omega,rfl,HM1,HJ1,HL⟩
     case measure=>(simp[intOf];try omega)
    ·have HM1:=aA (HYes.o rfl)
     have HJ1:=aA (HJy.o rfl)
     have hDl:D.length<=2000000:=by have:=aTq L (o:Int) (j+1);rw[HJ.o,HLn.o] at this;omega
     have HDl:=aA hDl
     have hOk:=Cde.dE HOk.o hjn
     generalize hmm:L.getD j i0=m at *
     have HR:=aA fun q hq=>Cde.qF hOk (j:=q) hq
     have hr3:=Cde.kX m
     have HA:=aA fun w=>Cde.xW m w
     have HT:=aA fun q (h:q < dC m)=>Cde.aMm m h
     have HFu:=aA (Cde.aMl m)
     have HRg:Hid (∀ q,q < 3->(zA (abc m))[q]?=some (.i (mV m q))):=aA fun q h=>by rw[gZ _ q (by simp[abc];omega),Cde.xO m q h]
     generalize dC m=r at *
     have hb:=aD V (.cells #[.i (j:Int)] 3)
     have HL5:=aA (HL.o.below hb)
     have HN5:=aA (aB.new V 3 #[.i (j:Int)])
     clear hb hOk HYes HNo HJy HJn hDl
     go_wp2_with (at_builtin;refine iE rfl _ _ rfl rfl HL5.o.r HL5.o.lo.size _ (j:Int) rfl HN5.o HDl.o ?_;intro gl lc w2 hown hgr;have HL6:=aA (HL5.o.grow hgr hown);obtain⟨e0,e1,e2,e3,e4,e5⟩:=(hmm ▸ aBd (HLI.o.later HL6.o.lo) j hjn);obtain⟨c0,c1,c2,c3⟩:=aC HL6.o.c;clear hown hgr HL5 HN5)
     refine(HA.o _).mono ?_
     rintro e V6 ⟨ga,rfl,hga,hGa,hb⟩
     have HL7:=aA (HL6.o.below hb)
     have HR6:=aA hGa
     have hne:g≠ga:=Nat.ne_of_lt (Nat.lt_of_lt_of_le HL6.o.b.lt hga)
     clear hb hGa hga HL6 HA e0 e1 e2 e3 e4 e5 c0 c1 c2 c3
     go_wp2_with fail
     go_loopw [41] (fun iv wr=>∃ q:Nat,q<=r/\iv=.i q/\Hid (aB wr ga 3 (zA (abc m)))/\Hid (Ll W wr (cd f d (some ⟨b,off,none⟩) n cap (o:Int)) g (mkA B ((eF m).take q)) (.slice (some ⟨gl,0,none⟩) (D.length+1) lc) (D++[(j:Int)]))) (fun iv _=>r-(intOf iv).toNat)
     case atStart=>exact⟨0,nZl _,rfl,HR6,HL7⟩
     case round =>
      obtain⟨q,hq,rfl,HR7,HL8⟩:=hrel
      rename World=>V7
      by_cases hqr:q < r
      ·have cp:=HR7.o.cell q (HRg.o q (by omega))
       obtain⟨p0,p1⟩:=HR.o q hqr
       have hs:=HT.o q hqr
       have hU2:=aO1 B ((eF m).take q) (mV m q)
       rw[<-hs] at hU2
       obtain⟨p,hp⟩:∃ p:Nat,mV m q=(p:Int):=⟨(mV m q).toNat,by omega⟩
       rw[hp] at cp p1 hU2
       simp only[iTn] at p1 hU2
       have HU2:=aA hU2
       have hul:=aJd ((eF m).take q) B
       rw[hBl] at hul
       have d0:=HL8.o.b.cell p (aB7 _ p (by rw[hul];omega))
       have y0:=HL8.o.b.frozen p
       have HL9:=aA (HL8.o.mark p)
       rw[<-HU2.o] at HL9
       have HR9:=aA (HR7.o.other (p:=⟨g,p,none⟩) (by simp;omega) (.bool true))
       generalize (mkA B ((eF m).take q)).getD p false=x at d0
       have s0:(0:Int)<=q:=by omega
       have s1:(q:Int) < r:=by omega
       have s2:(q:Int) < 3:=by omega
       have u0:(0:Int)<=p:=by omega
       have u1:(p:Int) < n:=by omega
       clear p0 p1 hp hs hU2 HU2 hul
       go_wp2_with fail
       go_roundw
       case rel=>exact⟨q+1,by omega,by go_num,HR9,HL9⟩
       case measure=>(simp[intOf];try omega)
      ·obtain rfl:q=r:=by omega
       have HL9:=HL8.o
       rw[HFu.o] at HL9
       have HL10:=aA HL9
       clear HL9 HL8 HR7
       go_wp2_with fail
       go_roundw
       case rel=>exact⟨j,mkA B (eF m),D++[(j:Int)],by omega,rfl,HM1,HJ1,aA (by simpa using HL10.o)⟩
       case measure=>(simp[intOf];try omega)
 ·rw[h0] at HCk
  rw[show liZ f d L out=[] from if_neg hm]
  clear hm h0 hL
  go_enter Tryz.func332,Tryz.ntmps332
  go_wp2_with fail
  refine HCk.o.mono ?_
  rintro e V1 ⟨rfl,hb⟩
  have HB1:=aA (bel HB0.o hb)
  clear hb
  go_wp2_with fail
  go_ret
  exact⟨none,0,rfl,⟨rfl,.inl ⟨rfl,rfl⟩⟩,HB1.o⟩
end
section
open Go.RowKit Go.IntWalk Knd
open Cde (In i0 ia kd cd Ins sI aH aC aP aJ bE eH aF dL i6 zA gZ aG eF kM)
open Rdc (cO)
open Fld (own_ne)
open Fld (aU)
open Fld (kQ)
open Shr (lG)
open Fld (oN)
open Fld (dH dP gP)
open YticnbcfmbhjbgaaGreatDoor (aB)
open Fld (jQ)
variable {V W:World} {cv:Array Value} {mv:Value} {M:List In} {gt:Nat} {T:List Int}
theorem uK (n:Nat)(h:n<=1024):∃ cs:Array Value,cs.size=n*6/\∀ w:World,(Instr.makeSlice 31 (.i 0) (.i n)).run Tryz.prog w=.ok (.slice (some ⟨w.heap.size,0,none⟩) 0 n) (w.alloc (.cells cs 132)):=by
 obtain⟨i0',hi,hz0,hz1,hz2⟩:=Spn.info_parts oN
 refine⟨madeCells (Value.agg (ia i0)).cells (n*6),size_madeCells _ _,fun w=>?_⟩
 have:=run_make w 31 132 i0' _ Tryz.underlying31 hi hz0 .i64 .i64 0 n (by omega) (by omega) (by rw[hz2];omega) (by omega)
 rw[hz1] at this
 simp only[iTn] at this
 exact this
structure Kt (W V:World)(cv:Array Value)(mv:Value)(M:List In)(gt:Nat)(T:List Int):Prop where
 c:aB V W.heap.size 33 cv
 o:aB V (W.heap.size+1) 33 cO
 m:V.ownsRow W.heap.size 132 6 mv M.length (dL M)
 t:aB V gt 3 (zA T)
 lo:Below W.heap.size W V
 g0:W.heap.size+1 < gt
theorem Kt.below {W V V':World}{cv:Array Value}{mv:Value}{M:List In}{gt:Nat}{T:List Int}(h:Kt W V cv mv M gt T)(hb:Below V.heap.size V V'):Kt W V' cv mv M gt T:=⟨h.c.below hb,h.o.below hb,Cde.bI h.m hb,h.t.below hb,bel h.lo hb,h.g0⟩
theorem Kt.grow {V':World}{mv':Value}{M':List In}(h:Kt W V cv mv M gt T)(hg:V.grownBy V' mv.ownBlock)(ho:V'.ownsRow W.heap.size 132 6 mv' M'.length (dL M')):Kt W V' cv mv' M' gt T :=
 ⟨aU h.m hg h.c (by decide),aU h.m hg h.o (by decide),ho,aU h.m hg h.t (by decide),h.lo.grown hg h.lo.size fun k hk=>(Cde.aR h.m k hk).1,h.g0⟩
theorem Kt.put (h:Kt W V cv mv M gt T)(p:Nat)(x:Int):Kt W (V.setCell ⟨gt,p,none⟩ (.i x)) cv mv M gt (T.set p x) :=
 ⟨h.c.other (p:=⟨gt,p,none⟩) (by have:=h.g0;simp;omega) _,h.o.other (p:=⟨gt,p,none⟩) (by have:=h.g0;simp;omega) _,ownsRow_setCell_other h.m (a:=⟨gt,p,none⟩) (own_ne h.m h.t (by decide)) _,Cde.bBw h.t x,h.lo.setCell (p:=⟨gt,p,none⟩) (by have:=h.g0;simp;omega) _,h.g0⟩
theorem aLh (f d out:Int){a:Option Addr}{n cap:Nat}{L:List In}(hL:Ins W a n cap L)(hp:Pc L out)(hn:n<=200){ra:Option Addr}{rn rc:Nat}(hR:Ints W ra rn rc (lvZ L out)) :
  Calls Tryz.prog 331 #[.agg (cd f d a n cap out),.slice ra rn rc] W fun e W'=>∃ a' c',e=.returned (.agg (cd f d a' rn c' (prO L out)))/\W'.ownsRow W.heap.size 132 6 (.slice a' rn c') rn (dL (sQ L out))/\Below W.heap.size W W':=by
 have hrn:(dU L out).length=rn:=by rw[<-aC2];exact hR.len
 have hr1:rn<=n:=by have:=aC1 L out;rw[hL.len] at this;omega
 have hr0:1<=rn:=by have:=hp.last.2.1;omega
 have ho:=hp.o1
 have ho0:=hp.o0
 rw[hL.len] at ho
 obtain⟨o,rfl⟩:∃ o:Nat,out=o:=⟨out.toNat,by omega⟩
 simp only[iTn] at ho
 obtain⟨b,off,rfl,-,-⟩:=hL.at (by omega)
 obtain⟨rb,ro,rfl,hrl,-⟩:=hR.at (by omega)
 obtain⟨cs1,hs1,hmk1⟩:=uK rn (by omega)
 have hmk2:=Cde.aXy n (by omega)
 have HLI:=aA hL
 have HLn:=aA hL.len
 have HRI:=aA hR
 have HP:=aA hp
 have HRn:=aA hrn
 have HF0:Hid (Kt W ((((W.alloc (.cells (cd f d (some ⟨b,off,none⟩) n cap (o:Int)) 33)).alloc (.cells cO 33)).alloc (.cells cs1 132)).alloc (.cells (zA (List.replicate n 0)) 3)) (cd f d (some ⟨b,off,none⟩) n cap (o:Int)) (.slice (some ⟨W.heap.size+1+1,0,none⟩) 0 rn) [] (W.heap.size+1+1+1) (List.replicate n 0)):=by
  have b1:=aD W (.cells (cd f d (some ⟨b,off,none⟩) n cap (o:Int)) 33)
  have b2:=bel b1 (aD _ (.cells cO 33))
  have b3:=bel b2 (aD _ (.cells cs1 132))
  have b4:=bel b3 (aD _ (.cells (zA (List.replicate n 0)) 3))
  have h1:=((aB.new W 33 (cd f d (some ⟨b,off,none⟩) n cap (o:Int))).alloc (.cells cO 33)).alloc (.cells cs1 132)
  have h2:=((aJ W (.cells (cd f d (some ⟨b,off,none⟩) n cap (o:Int)) 33) 33 cO).alloc (.cells cs1 132))
  have h3:=aB.new ((W.alloc (.cells (cd f d (some ⟨b,off,none⟩) n cap (o:Int)) 33)).alloc (.cells cO 33)) 132 cs1
  have h4:=aB.new (((W.alloc (.cells (cd f d (some ⟨b,off,none⟩) n cap (o:Int)) 33)).alloc (.cells cO 33)).alloc (.cells cs1 132)) 3 (zA (List.replicate n 0))
  rw[wSa,wSa] at h3
  rw[wSa,wSa,wSa] at h4
  exact aA ⟨h1.alloc _,h2.alloc _,jQ (h3.alloc _) hs1 (by omega) (by omega),h4,b4,by omega⟩
 have hsr:rn<=9223372036854775807:=by omega
 clear hL hs1 hR hp hrn hrl
 go_enter Tryz.func331,Tryz.ntmps331
 go_wp2_with fail
 clear hmk1 hmk2
 go_loopw [5,18] (fun mv iv wr=>∃(k gm cm:Nat),k<=rn/\iv=.i k/\mv=.slice (some ⟨gm,0,none⟩) k cm/\Hid (Kt W wr (cd f d (some ⟨b,off,none⟩) n cap (o:Int)) (.slice (some ⟨gm,0,none⟩) k cm) (prK L (o:Int) k) (W.heap.size+1+1+1) (toK (dU L (o:Int)) n k))) (fun _ iv _=>rn-(intOf iv).toNat)
 case atStart=>exact⟨0,_,_,nZl _,rfl,rfl,HF0⟩
 case round =>
  obtain⟨k,gm,cm,hk,rfl,rfl,HF⟩:=hrel
  rename World=>V
  clear HF0
  generalize hgt:W.heap.size+1+1+1=gt at *
  by_cases hlt:k < rn
  ·have hkl:k < (dU L (o:Int)).length:=by rw[HRn.o];exact hlt
   obtain⟨hr,-⟩:=HP.o.mem hkl
   have hth:=HP.o.th hkl
   have hps:=aPv (L:=L) (out:=(o:Int)) hkl
   have hpl:=aUl (L:=L) (out:=(o:Int)) (k:=k) (by omega)
   have htl:=oL (dU L (o:Int)) n k
   have htl2:=oL (dU L (o:Int)) n (k+1)
   have hts:=aAi (dU L (o:Int)) n k
   have hre:=aXr hkl
   rw[HLn.o] at hr hth
   obtain⟨b',o',e',-,hat⟩:=(HRI.o.later HF.o.lo).at (by omega)
   cases e'
   have rg:=hat k hlt
   rw[hre] at rg
   generalize (dU L (o:Int)).getD k 0=r at *
   have HTh:=aA hth
   have HPs:=aA hps
   have HPl:=aA hpl
   have HTs:=aA hts
   have HTl:=aA htl2
   have d0:=HF.o.t.cell r (gZ _ r (by rw[htl];exact hr))
   have y0:=HF.o.t.frozen r
   generalize (toK (dU L (o:Int)) n k).getD r 0=x0 at d0
   have HF1:=aA (HF.o.put r (k:Int))
   rw[<-HTs.o] at HF1
   clear hat hre hth hps hpl htl htl2 hts hkl
   have j0:(0:Int)<=k:=by omega
   have j1:(k:Int) < rn:=by omega
   have j2:(0:Int)<=r:=by omega
   have j3:(r:Int) < n:=by omega
   go_upto_region 7 with fail
   obtain⟨V1,hV1⟩:∃ V1,V.setCell ⟨gt,r,none⟩ (.i (k:Int))=V1:=⟨_,rfl⟩
   rw[hV1] at HF1 ⊢
   clear hV1 d0 y0 rg HF
   obtain⟨c0,c1,c2,c3⟩:=aC HF1.o.c
   obtain⟨e0,e1,e2,e3,e4,e5⟩:=aBd (HLI.o.later HF1.o.lo) r hr
   have hIn:=Cde.aWc HF1.o.t (by rw[HTl.o];omega)
   rw[HTl.o] at hIn
   have HFt:=aA (gP (L.getD r i0) hIn)
   rw[HTh.o] at HFt
   generalize (sQ L (o:Int)).getD k i0=nm at *
   clear hIn
   go_wp2_with fail
   refine HFt.o.mono ?_
   rintro e V2 ⟨rfl,hb⟩
   have hb2:=aD V2 (.cells (ia nm) 132)
   have HF2:=aA ((HF1.o.below hb).below hb2)
   have HN2:=aA (aB.new V2 132 (ia nm))
   clear hb hb2 HFt HF1 c0 c1 c2 c3 e0 e1 e2 e3 e4 e5
   go_wp2_with (at_builtin;refine lG rfl _ _ rfl rfl HF2.o.m HF2.o.lo.size _ nm rfl HN2.o (by rw[HPl.o];omega) ?_;intro g cap' w2 hown hgr)
   have HF3:=aA (HF2.o.grow hgr hown)
   rw[<-HPs.o,HPl.o] at HF3
   rw[HPl.o]
   clear hown hgr HF2
   go_wp2_with fail
   go_roundw
   case rel=>exact⟨k+1,_,_,by omega,by go_num,rfl,HF3⟩
   case measure=>simp[intOf];omega
  ·obtain rfl:k=rn:=by omega
   have hpf:=aPu L (o:Int)
   rw[HRn.o] at hpf
   have htf:=aRa HP.o
   rw[HRn.o,HLn.o] at htf
   rw[hpf,htf] at HF
   have HPl:=aA (show (sQ L (o:Int)).length=k by rw[jE,HRn.o])
   have HPo:=aA (show prO L (o:Int)=(toL L (o:Int)).getD o 0 from rfl)
   have hpo:prO L (o:Int)=(toL L (o:Int)).getD o 0:=rfl
   obtain⟨c0,c1,c2,c3⟩:=aC HF.o.c
   have hf0:=HF.o.o.frozen 0
   have hf1:=HF.o.o.frozen 1
   have hf2:=HF.o.o.frozen 2
   have hf3:=HF.o.o.frozen 3
   obtain⟨p0,p1,p2,p3⟩:=aC HF.o.o
   have t0:=HF.o.t.cell o (gZ _ o (by rw[aD4,HLn.o];exact ho))
   obtain⟨z,hz⟩:∃ z,(toL L (o:Int)).getD o 0=z:=⟨_,rfl⟩
   rw[hz] at t0 HPo
   clear hz
   have hw0:W.heap.size < V.heap.size:=HF.o.c.lt
   have hw1:W.heap.size+1 < V.heap.size:=HF.o.o.lt
   have i0':(0:Int)<=o:=by omega
   have i1':(o:Int) < n:=by omega
   clear hpf htf hpo
   go_wp2_with fail
   go_region
   have hq:(Value.slice (some ⟨gm,0,none⟩) k cm).ownBlock≠some (W.heap.size+1):=own_ne HF.o.m HF.o.o (by decide)
   have HO5:=aA (((((HF.o.o.set 0 (.i f)).set 1 (.i d)).set 2 (.slice (some ⟨gm,0,none⟩) k cm)).set 3 (.i z)).below (aF _))
   have HM5:=aA ((ownsRow_setCell_other (ownsRow_setCell_other (ownsRow_setCell_other (ownsRow_setCell_other HF.o.m (a:=⟨W.heap.size+1,0,none⟩) hq (.i f)) (a:=⟨W.heap.size+1,1,none⟩) hq (.i d)) (a:=⟨W.heap.size+1,2,none⟩) hq (.slice (some ⟨gm,0,none⟩) k cm)) (a:=⟨W.heap.size+1,3,none⟩) hq (.i z)).drew)
   have HB5:=aA (((((HF.o.lo.setCell (p:=⟨W.heap.size+1,0,none⟩) (by simp) (.i f)).setCell (p:=⟨W.heap.size+1,1,none⟩) (by simp) (.i d)).setCell (p:=⟨W.heap.size+1,2,none⟩) (by simp) (.slice (some ⟨gm,0,none⟩) k cm)).setCell (p:=⟨W.heap.size+1,3,none⟩) (by simp) (.i z)).drew)
   obtain⟨V5,hV5⟩:∃ V5,((((V.setCell ⟨W.heap.size+1,0,none⟩ (.i f)).setCell ⟨W.heap.size+1,1,none⟩ (.i d)).setCell ⟨W.heap.size+1,2,none⟩ (.slice (some ⟨gm,0,none⟩) k cm)).setCell ⟨W.heap.size+1,3,none⟩ (.i z)).drew=V5:=⟨_,rfl⟩
   rw[hV5] at HO5 HM5 HB5 ⊢
   obtain⟨x0,x1,x2,x3⟩:=aC HO5.o
   rw[HPl.o] at HM5
   clear hV5 c0 c1 c2 c3 p0 p1 p2 p3 hf0 hf1 hf2 hf3 t0 hq
   go_wp2_with fail
   exact bPr (v:=.agg (cd f d (some ⟨gm,0,none⟩) k cm z)) (by simp[results,Tryz.results331,go_sem,x0,x1,x2,x3]) rfl ⟨_,_,by rw[HPo.o],HM5.o,HB5.o⟩
end
open Go.RowKit Go.IntWalk Knd
open Cde (In i0 ia kd cd Ins sI aH aC aP aJ bE eH aF dL i6 kM)
open Rdc (cO)
open Fld (own_ne)
open Fld (aU)
open Fld (kQ)
open Fld (s4)
open Fld (bD)
open Fld (gI)
open Vfy (aW rM pJ sD)
open YticnbcfmbhjbgaaGreatDoor (aB)
open Fld (Fg)
def mM (f d:Int)(L:List In)(out:Int):List In:=if aW f d L out=0 then sQ L out else[]
def foU (f d:Int)(L:List In)(out:Int):Int:=if aW f d L out=0 then prO L out else 0
def yO (f d:Int)(L:List In)(out x:Int):Int:=if aW f d L out=0 then x else 0
def sF (w:World)(f d:Int)(L:List In)(out:Int)(e:Ending)(W':World):Prop :=
 ∃ a c,e=.returned (.tuple #[.agg (cd (yO f d L out f) (yO f d L out d) a (mM f d L out).length c (foU f d L out)),.i (aW f d L out)])/\W'.ownsRow w.heap.size 132 6 (.slice a (mM f d L out).length c) (mM f d L out).length (dL (mM f d L out))/\Below w.heap.size w W'
theorem sF.no {w W':World}{f d:Int}{L:List In}{out er:Int}(h:aW f d L out=er)(h0:er≠0)(hb:Below w.heap.size w W'):sF w f d L out (.returned (.tuple #[.agg cO,.i er])) W':=by
 subst h
 refine⟨none,0,?_,?_,hb⟩
 ·simp[yO,mM,foU,h0]
 ·rw[mM,if_neg h0];exact⟨rfl,.inl ⟨rfl,rfl⟩⟩
theorem sF.row {w W':World}{f d:Int}{L I:List In}{out u:Int}{a:Option Addr}{n c:Nat}(h:aW f d L out=0)(hI:sQ L out=I)(hu:prO L out=u)(hn:I.length=n)(hO:W'.ownsRow w.heap.size 132 6 (.slice a n c) n (dL I))(hb:Below w.heap.size w W'):sF w f d L out (.returned (.tuple #[.agg (cd f d a n c u),.i 0])) W':=by
 subst hn hI hu
 refine⟨a,c,?_,?_,hb⟩
 ·simp[yO,mM,foU,h]
 ·rw[mM,if_pos h];exact hO
theorem aAr {W V:World}{p q r s:Value}(h:aB V (W.heap.size+1) 33 #[p,q,r,s])(hl:Below W.heap.size W V)(x y z u:Value):aB (s4 V (W.heap.size+1) x y z u) (W.heap.size+1) 33 #[x,y,z,u]/\Below W.heap.size W (s4 V (W.heap.size+1) x y z u) :=
 ⟨(((h.set 0 x).set 1 y).set 2 z).set 3 u,(((hl.setCell (p:=⟨W.heap.size+1,0,none⟩) (by simp) _).setCell (p:=⟨W.heap.size+1,1,none⟩) (by simp) _).setCell (p:=⟨W.heap.size+1,2,none⟩) (by simp) _).setCell (p:=⟨W.heap.size+1,3,none⟩) (by simp) _⟩
theorem aHs (f d out:Int){a:Option Addr}{n cap:Nat}{L:List In}{W:World}(hL:Ins W a n cap L) :
  Calls Tryz.prog 280 #[.agg (cd f d a n cap out)] W (sF W f d L out):=by
 have b1:=aD W (.cells (cd f d a n cap out) 33)
 have b2:=bel b1 (aD _ (.cells cO 33))
 have HC0:=aA ((aB.new W 33 (cd f d a n cap out)).alloc (.cells cO 33))
 have HR0:=aA (aJ W (.cells (cd f d a n cap out) 33) 33 cO)
 have HB0:=aA b2
 have HV:=aA (Vfy.dR f d out (hL.later b2))
 have HLI:=aA hL
 have HLn:=aA hL.len
 clear b1 b2 hL
 go_enter Tryz.func280,Tryz.ntmps280
 go_wp2_with fail
 refine HV.o.mono ?_
 rintro e V1 ⟨ga,gc,rfl,hS,hb,-,-⟩
 obtain⟨m,hm⟩:∃ m,rM f d L out=m:=⟨_,rfl⟩
 obtain⟨co,hco⟩:∃ co,pJ f d L out=co:=⟨_,rfl⟩
 obtain⟨er,her⟩:∃ er,aW f d L out=er:=⟨_,rfl⟩
 rw[hm,hco,her]
 have HEr:=aA her
 have hb2:=aD V1 (.cells #[.slice ga m gc,.i co,.i 0] 55)
 have HF1:Hid (Fg W (V1.alloc (.cells #[.slice ga m gc,.i co,.i 0] 55)) (cd f d a n cap out) cO):=aA ⟨(HC0.o.below hb).below hb2,(HR0.o.below hb).below hb2,bel (bel HB0.o hb) hb2⟩
 obtain⟨x0,x1,x2,x3⟩:=aC (HC0.o.below hb)
 obtain⟨p0,p1,p2,p3⟩:=aC (HR0.o.below hb)
 have z0:=(HC0.o.below hb).lt
 have z1:=(HR0.o.below hb).lt
 clear hm hco her hb hb2 hS HV HC0 HR0 HB0
 by_cases h0:er=0
 ·have hr:(er != 0)=false:=by simpa using h0
  go_upto_region 4 with fail
  obtain⟨V2,hV2⟩:∃ V2,V1.alloc (.cells #[.slice ga m gc,.i co,.i 0] 55)=V2:=⟨_,rfl⟩
  rw[hV2] at HF1 ⊢
  clear x0 x1 x2 x3 p0 p1 p2 p3 z0 z1 hV2
  obtain⟨x0,x1,x2,x3⟩:=aC HF1.o.c
  have h0':=HEr.o.trans h0
  obtain⟨mc,-⟩:=Vfy.aI h0'
  have HP:=aA (aFo mc)
  have hlz:liZ f d L out=lvZ L out:=if_pos mc
  obtain⟨-,m1,m2,o0,o1,-⟩:=Cde.aQ mc
  rw[HLn.o] at m1 m2 o1
  have hFo:=aLi f d out ((HLI.o.later HF1.o.lo).later (aF V2))
  rw[hlz] at hFo
  have hll:(sQ L out).length=(lvZ L out).length:=by rw[jE,aC2]
  obtain⟨rl,hrl⟩:∃ rl,(lvZ L out).length=rl:=⟨_,rfl⟩
  rw[hrl] at hFo hll
  have HFo:=aA hFo
  have HRl:=aA hrl
  have HPl:=aA hll
  have HHa:=aA fun(V:World) (a1:Option Addr) (c1:Nat) (hI:Ins V a n cap L) (hO:Ints V a1 rl c1 (lvZ L out))=>aLh f d out hI HP.o m2 hO
  have HS:=aA fun V3 (hb:Below V2.drew.heap.size V2.drew V3)=>(HF1.o.below (bel (aF V2) hb))
  clear mc hFo hlz hll hrl
  go_region_held3 (fun w'=>w'.cell? ⟨W.heap.size,0,none⟩=some (.i f)/\w'.cell? ⟨W.heap.size,1,none⟩=some (.i d)/\w'.cell? ⟨W.heap.size,2,none⟩=some (.slice a n cap)/\w'.cell? ⟨W.heap.size,3,none⟩=some (.i out))
   (first|exact⟨x0,x1,x2,x3⟩|exact⟨l0,l1,l2,l3⟩|exact⟨k0,k1,k2,k3⟩|exact⟨u0,u1,u2,u3⟩|go_keep)
   ((first
    | (go_at_call 332;refine HFo.o.mono ?_;rintro e V3 ⟨a',c',rfl,hO,hb⟩;have HF3:=aA (HS.o V3 hb);have HI3:=aA (HRl.o ▸ Cde.aVh (w:=V2.drew) (a:=a') (c:=c') (D:=lvZ L out) (by rw[HRl.o];exact hO));obtain⟨k0,k1,k2,k3⟩:=aC HF3.o.c)
    | (go_at_call 331;refine(HHa.o _ _ _ (HLI.o.later HF3.o.lo) HI3.o).mono ?_;rintro e V4 ⟨a2',c2',rfl,hO4,hb4⟩;have HF4:=aA (HF3.o.below hb4);obtain⟨l0,l1,l2,l3⟩:=aC HF4.o.c;obtain⟨p0,p1,p2,p3⟩:=aC HF4.o.r;obtain⟨r0,r1,r2,r3⟩:=bD HF4.o.r;obtain⟨u0,u1,u2,u3⟩:=aC (aB.other (aB.other (aB.other (aB.other HF4.o.c (p:=⟨W.heap.size+1,0,none⟩) (show W.heap.size≠W.heap.size+1 by omega) (.i f)) (p:=⟨W.heap.size+1,1,none⟩) (show W.heap.size≠W.heap.size+1 by omega) (.i d)) (p:=⟨W.heap.size+1,2,none⟩) (show W.heap.size≠W.heap.size+1 by omega) (.slice a2' rl c2')) (p:=⟨W.heap.size+1,3,none⟩) (show W.heap.size≠W.heap.size+1 by omega) (.i (prO L out))))))
  all_goals
   have HO4:=aA (Cde.bS hO4 (show W.heap.size<=V3.heap.size from HF3.o.lo.size))
   clear u0 u1 u2 u3 k0 k1 k2 k3 l0 l1 l2 l3 p0 p1 p2 p3 r0 r1 r2 r3 hO hb hO4 hb4 HFo HHa HS x0 x1 x2 x3 HF3 HI3 h0 hr
   have hq:=own_ne HO4.o HF4.o.r (by decide)
   generalize hu:prO L out=u at *
   generalize hI:sQ L out=I at *
   have HO5:=aA (gI HO4.o hq (.i f) (.i d) (.slice a2' rl c2') (.i u))
   have HF5:=aA (aAr HF4.o.r HF4.o.lo (.i f) (.i d) (.slice a2' rl c2') (.i u))
   obtain⟨V5,hV5⟩:∃ V5,(((V4.setCell ⟨W.heap.size+1,0,none⟩ (.i f)).setCell ⟨W.heap.size+1,1,none⟩ (.i d)).setCell ⟨W.heap.size+1,2,none⟩ (.slice a2' rl c2')).setCell ⟨W.heap.size+1,3,none⟩ (.i u)=V5:=⟨_,rfl⟩
   unfold s4 at HO5 HF5
   rw[hV5] at HO5 HF5 ⊢
   clear hV5 hq HF4 HO4
   go_wp2_with fail
   obtain⟨q0,q1,q2,q3⟩:=aC HF5.o.1
   exact bPr (v:=.tuple #[.agg (cd f d a2' rl c2' u),.i 0]) (by simp[results,Tryz.results280,go_sem,q0,q1,q2,q3]) rfl (sF.row h0' hI hu HPl.o HO5.o HF5.o.2)
 ·have hr:(er != 0)=true:=by simpa using h0
  go_upto_region 3 with fail
  obtain⟨V2,hV2⟩:∃ V2,V1.alloc (.cells #[.slice ga m gc,.i co,.i 0] 55)=V2:=⟨_,rfl⟩
  rw[hV2] at HF1 ⊢
  clear x0 x1 x2 x3 p0 p1 p2 p3 z0 z1 hV2
  obtain⟨p0,p1,p2,p3⟩:=aC HF1.o.r
  obtain⟨r0,r1,r2,r3⟩:=bD HF1.o.r
  obtain⟨V3,hV3⟩:∃ V3,(((V2.setCell ⟨W.heap.size+1,0,none⟩ (.i 0)).setCell ⟨W.heap.size+1,1,none⟩ (.i 0)).setCell ⟨W.heap.size+1,2,none⟩ (.slice none 0 0)).setCell ⟨W.heap.size+1,3,none⟩ (.i 0)=V3:=⟨_,rfl⟩
  have HF2:=aA (aAr HF1.o.r HF1.o.lo (.i 0) (.i 0) (.slice none 0 0) (.i 0))
  unfold s4 at HF2
  rw[hV3] at HF2
  go_wp2_with fail
  obtain⟨q0,q1,q2,q3⟩:=aC HF2.o.1
  exact bPr (v:=.tuple #[.agg cO,.i er]) (by simp[results,Tryz.results280,go_sem,q0,q1,q2,q3]) rfl (sF.no HEr.o h0 HF2.o.2)
end Go.Proofs.Prn
