import Derived.Test.YticnbcfmbhjbgaaGreatDoorX37
import Derived.Test.YticnbcfmbhjbgaaGreatDoorX40
import Derived.Test.YticnbcfmbhjbgaaGreatDoorX41
set_option maxRecDepth 100000
set_option maxHeartbeats 32000000
set_option linter.unusedVariables false
namespace Go.Proofs.Pss
section
open Go.RowKit Go.IntWalk Knd
open Cde (In i0 ia kd cd Ins dL)
open Vfy (aW)
def rnE (f d:Int)(L:List In)(out:Int)(P:List Int):Int:=if okP P=true then aW f d L out else 1
def rnI (f d:Int)(L:List In)(out:Int)(P:List Int):List In:=if rnE f d L out P=0 then(psF f d P (L,out)).1 else[]
def rnU (f d:Int)(L:List In)(out:Int)(P:List Int):Int:=if rnE f d L out P=0 then(psF f d P (L,out)).2 else 0
def rnK (f d:Int)(L:List In)(out:Int)(P:List Int)(x:Int):Int:=if rnE f d L out P=0 then x else 0
def RnP (w:World)(f d:Int)(L:List In)(out:Int)(P:List Int)(e:Ending)(W':World):Prop :=
 ∃ a c,e=.returned (.tuple #[.agg (cd (rnK f d L out P f) (rnK f d L out P d) a (rnI f d L out P).length c (rnU f d L out P)),.i (rnE f d L out P)])/\W'.ownsRow w.heap.size 132 6 (.slice a (rnI f d L out P).length c) (rnI f d L out P).length (dL (rnI f d L out P))/\Below w.heap.size w W'
theorem RnP.no {w W':World}{f d:Int}{L:List In}{out:Int}{P:List Int}{er:Int}(h:rnE f d L out P=er)(h0:er≠0)(hb:Below w.heap.size w W'):RnP w f d L out P (.returned (.tuple #[.agg Rdc.cO,.i er])) W':=by
 subst h
 refine⟨none,0,?_,?_,hb⟩
 ·simp[rnK,rnI,rnU,h0]
 ·rw[rnI,if_neg h0];exact⟨rfl,.inl ⟨rfl,rfl⟩⟩
theorem RnP.row {w W':World}{f d:Int}{L I:List In}{out u:Int}{P:List Int}{a:Option Addr}{n c:Nat}(h:rnE f d L out P=0)(hI:psF f d P (L,out)=(I,u))(hn:I.length=n)(hO:W'.ownsRow w.heap.size 132 6 (.slice a n c) n (dL I))(hb:Below w.heap.size w W'):RnP w f d L out P (.returned (.tuple #[.agg (cd f d a n c u),.i 0])) W':=by
 subst hn
 refine⟨a,c,?_,?_,hb⟩
 ·simp[rnK,rnI,rnU,h,hI]
 ·rw[rnI,if_pos h,hI];exact hO
theorem aPr (p f d out:Int){a:Option Addr}{n cap:Nat}{L:List In}{W:World}(hL:Ins W a n cap L)(h:aW f d L out=0){I:List In}{u:Int}(hI:ps1 f d (L,out) p=(I,u)){m:Nat}(hm:I.length=m) :
  Calls Tryz.prog (fnP p) #[.agg (cd f d a n cap out)] W fun e W'=>∃ a' c',e=.returned (.tuple #[.agg (cd f d a' m c' u),.i 0])/\W'.ownsRow W.heap.size 132 6 (.slice a' m c') m (dL I)/\Below W.heap.size W W':=by
 subst hm
 have h1:=congrArg Prod.fst hI
 have h2:=congrArg Prod.snd hI
 dsimp only at h1 h2
 subst h1 h2
 unfold fnP ps1
 by_cases e1:p=1
 ·simp only[if_pos e1]
  refine(Fld.aKr f d out hL).mono ?_
  rintro e W' ⟨a',c',rfl,hO,hb⟩
  have e1:Fld.mM f d L out=Fld.fdL f d L out:=by rw[Fld.mM,if_pos h]
  rw[e1] at hO
  exact⟨a',c',by rw[e1];simp[Fld.yO,Fld.foU,h],hO,hb⟩
 simp only[if_neg e1]
 by_cases e2:p=2
 ·simp only[if_pos e2]
  refine(Shr.aG6 f d out hL).mono ?_
  rintro e W' ⟨a',c',rfl,hO,hb⟩
  have e1:Shr.mM f d L out=Shr.sdL f d L out:=by rw[Shr.mM,if_pos h]
  rw[e1] at hO
  exact⟨a',c',by rw[e1];simp[Shr.yO,Shr.foU,h],hO,hb⟩
 simp only[if_neg e2]
 by_cases e3:p=3
 ·simp only[if_pos e3]
  refine(Rdc.aGh f d out hL).mono ?_
  rintro e W' ⟨a',c',rfl,hO,hb⟩
  have e1:Rdc.mM f d L out=Rdc.rxL f d L out:=by rw[Rdc.mM,if_pos h]
  rw[e1] at hO
  exact⟨a',c',by rw[e1];simp[Rdc.yO,Rdc.foU,h],hO,hb⟩
 simp only[if_neg e3]
 refine(Prn.aHs f d out hL).mono ?_
 rintro e W' ⟨a',c',rfl,hO,hb⟩
 have e1:Prn.mM f d L out=Prn.sQ L out:=by rw[Prn.mM,if_pos h]
 rw[e1] at hO
 exact⟨a',c',by rw[e1];simp[Prn.yO,Prn.foU,h],hO,hb⟩
end
open Go.RowKit Go.IntWalk Knd
open Cde (In i0 ia kd cd Ins dL aP aC aJ)
open Rdc (cO)
open Fld (own_ne)
open Fld (s4)
open Fld (bD)
open Fld (gI)
open Prn (aAr)
open Fld (Fg)
open Vfy (aW rM pJ sD)
open YticnbcfmbhjbgaaGreatDoor (aB)
variable {P:List Int} {V W:World} {m n rc:Nat} {a ra:Option Addr}
theorem aNx (p:Int):fnP p=277\/fnP p=278\/fnP p=279\/fnP p=280:=by
 unfold fnP
 split
 ·exact .inl rfl
 ·split
  ·exact .inr (.inl rfl)
  ·split
   ·exact .inr (.inr (.inl rfl))
   ·exact .inr (.inr (.inr rfl))
theorem aYv {k:Nat}(hk:k < P.length):(ps2 P)[k*2]?=some (.i (P.getD k 0))/\(ps2 P)[k*2+1]?=some (fnV (P.getD k 0)):=by
 induction P generalizing k with
 | nil=>simp at hk
 | cons p P ih =>
  cases k with
  | zero=>exact⟨rfl,rfl⟩
  | succ k =>
   have h:=ih (k:=k) (by simpa using hk)
   have e:ps2 (p::P)=.i p::fnV p::ps2 P:=rfl
   rw[e,show (k+1)*2=k*2+1+1 by omega]
   simpa using h
theorem aY4 {base:Nat}(h:V.ownsRow base 221 2 (.slice ra n rc) n (ps2 P))(hn:P.length=n){k:Nat}(hk:k < n) :
  ∃ g,ra=some ⟨g,0,none⟩/\V.cell? ⟨g,k*2,none⟩=some (.i (P.getD k 0))/\V.cell? ⟨g,k*2+1,none⟩=some (fnV (P.getD k 0)):=by
 obtain⟨h0,h1⟩:=aYv (P:=P) (k:=k) (by omega)
 rcases h.2 with⟨h2,-⟩|⟨b,cap,cs,e,-,hc,-,-,-,hcs⟩
 ·have:=h.1
  rw[aUm] at this
  cases h2
  omega
 ·cases e
  have hg:∀ j v,(ps2 P)[j]?=some v->cs[j]?=some v:=fun j v hj=>by
   rw[<-hcs,List.getElem?_take] at hj
   split at hj
   ·simpa using hj
   ·cases hj
  exact⟨b,rfl,aB.cell (t:=221) hc _ (hg _ _ h0),aB.cell (t:=221) hc _ (hg _ _ h1)⟩
structure Rh (W V:World)(f d:Int)(a:Option Addr)(m c:Nat)(I:List In)(u:Int)(ra:Option Addr)(n rc:Nat)(P:List Int):Prop where
 b:Fg W V (cd f d a m c u) cO
 i:V.ownsRow W.heap.size 132 6 (.slice a m c) m (dL I)
 r:V.ownsRow W.heap.size 221 2 (.slice ra n rc) n (ps2 P)
theorem Rh.below {W V V':World}{f d:Int}{a:Option Addr}{m c:Nat}{I:List In}{u:Int}{ra:Option Addr}{n rc:Nat}{P:List Int}(h:Rh W V f d a m c I u ra n rc P)(hb:Below V.heap.size V V'):Rh W V' f d a m c I u ra n rc P:=⟨h.b.below hb,Cde.bI h.i hb,Cde.bI h.r hb⟩
theorem Rh.put {f d:Int}{a':Option Addr}{c m' c':Nat}{I I':List In}{u u':Int}(h:Rh W V f d a m c I u ra n rc P)(hI:V.ownsRow W.heap.size 132 6 (.slice a' m' c') m' (dL I')) :
  Rh W (s4 V W.heap.size (.i f) (.i d) (.slice a' m' c') (.i u')) f d a' m' c' I' u' ra n rc P:=by
 refine⟨⟨(((h.b.c.set 0 _).set 1 _).set 2 _).set 3 _,?_,?_⟩,gI hI (own_ne hI h.b.c (by decide)) _ _ _ _,gI h.r (own_ne h.r h.b.c (by decide)) _ _ _ _⟩
 ·exact(((h.b.r.other (p:=⟨W.heap.size,0,none⟩) (by simp) _).other (p:=⟨W.heap.size,1,none⟩) (by simp) _).other (p:=⟨W.heap.size,2,none⟩) (by simp) _).other (p:=⟨W.heap.size,3,none⟩) (by simp) _
 ·exact(((h.b.lo.setCell (p:=⟨W.heap.size,0,none⟩) (by simp) _).setCell (p:=⟨W.heap.size,1,none⟩) (by simp) _).setCell (p:=⟨W.heap.size,2,none⟩) (by simp) _).setCell (p:=⟨W.heap.size,3,none⟩) (by simp) _
theorem aRx (f d out:Int){oa:Option Addr}{cap oc:Nat}{L:List In}(hL:Ins W a n cap L)(hP:Ints W oa m oc P) :
  Calls Tryz.prog 73 #[.agg (cd f d a n cap out),.slice oa m oc] W (RnP W f d L out P):=by
 have b1:=aD W (.cells (cd f d a n cap out) 33)
 have b2:=bel b1 (aD _ (.cells cO 33))
 have HF0:Hid (Fg W ((W.alloc (.cells (cd f d a n cap out) 33)).alloc (.cells cO 33)) (cd f d a n cap out) cO):=aA ⟨(aB.new W 33 (cd f d a n cap out)).alloc (.cells cO 33),aJ W (.cells (cd f d a n cap out) 33) 33 cO,b2⟩
 have HR:=aA (aIi (hP.later b2))
 have HLI:=aA hL
 have HLn:=aA hL.len
 have HPn:=aA hP.len
 clear b1 b2 hL hP
 go_enter Tryz.func73,Tryz.ntmps73
 go_wp2_with fail
 refine HR.o.mono ?_
 rintro e V1 ⟨hb,⟨hok,ra,rc,rfl,hO⟩|⟨hok,rfl⟩⟩
 ·have HF1:=aA (HF0.o.below hb)
  have HRo:=aA (Cde.bS hO HF0.o.lo.size)
  have HV:=aA (Vfy.dR f d out (HLI.o.later HF1.o.lo))
  obtain⟨x0,x1,x2,x3⟩:=aC HF1.o.c
  clear hb hO HR HF0
  go_wp2_with fail
  refine HV.o.mono ?_
  rintro e V2 ⟨ga,gc,rfl,hS,hb,-,-⟩
  obtain⟨q,hq⟩:∃ q,rM f d L out=q:=⟨_,rfl⟩
  obtain⟨co,hco⟩:∃ co,pJ f d L out=co:=⟨_,rfl⟩
  obtain⟨er,her⟩:∃ er,aW f d L out=er:=⟨_,rfl⟩
  rw[hq,hco,her]
  have HEr:=aA her
  have hrn:rnE f d L out P=aW f d L out:=if_pos hok
  have HRn:=aA hrn
  have hb2:=aD V2 (.cells #[.slice ga q gc,.i co,.i 0] 55)
  have HF2:=aA ((HF1.o.below hb).below hb2)
  have HR2:=aA (Cde.bI (Cde.bI HRo.o hb) hb2)
  clear hb hb2 hS HV HF1 HRo x0 x1 x2 x3 hq hco her hrn
  by_cases h0:er=0
  ·have hr:(er != 0)=false:=by simpa using h0
   go_upto_region 7 with fail
   obtain⟨V3,hV3⟩:∃ V3,V2.alloc (.cells #[.slice ga q gc,.i co,.i 0] 55)=V3:=⟨_,rfl⟩
   rw[hV3] at HF2 HR2 ⊢
   clear hV3
   have h0':=HEr.o.trans h0
   obtain⟨mc,-⟩:=Vfy.aI h0'
   obtain⟨-,m1,m2,-,-,-⟩:=Cde.aQ mc
   rw[HLn.o] at m1 m2
   have hm16:m<=16:=by rw[<-HPn.o];exact(aJj hok).1
   have HCl:=aA (Fld.fE (HLI.o.later HF2.o.lo) (by omega) (by omega))
   obtain⟨x0,x1,x2,x3⟩:=aC HF2.o.c
   clear mc
   go_wp2_with fail
   refine HCl.o.mono ?_
   rintro e V4 ⟨ca,cc,rfl,hO,hb⟩
   have HF4:=aA (HF2.o.below hb)
   have HR4:=aA (Cde.bI HR2.o hb)
   have HO4:=aA (Cde.bS hO HF2.o.lo.size)
   clear hb hO HCl HF2 HR2 x0 x1 x2 x3
   obtain⟨x0,x1,x2,x3⟩:=aC HF4.o.c
   obtain⟨r0,r1,r2,r3⟩:=bD HF4.o.c
   have HH:Hid (Rh W (V4.setCell ⟨W.heap.size,2,none⟩ (.slice ca n cc)) f d ca n cc L out ra m rc P):=aA ⟨⟨HF4.o.c.set 2 _,HF4.o.r.other (p:=⟨W.heap.size,2,none⟩) (by simp) _,HF4.o.lo.setCell (p:=⟨W.heap.size,2,none⟩) (by simp) _⟩,ownsRow_setCell_other HO4.o (a:=⟨W.heap.size,2,none⟩) (own_ne HO4.o HF4.o.c (by decide)) _,ownsRow_setCell_other HR4.o (a:=⟨W.heap.size,2,none⟩) (own_ne HR4.o HF4.o.c (by decide)) _⟩
   clear HO4 HR4 HF4
   go_wp2_with fail
   clear x0 x1 x2 x3 r0 r1 r2 r3
   go_loopw [37] (fun iv wr=>∃(k:Nat) (ia':Option Addr) (im ic:Nat) (I:List In) (u:Int),k<=m/\iv=.i k/\psF f d (P.take k) (L,out)=(I,u)/\I.length=im/\Hid (Rh W wr f d ia' im ic I u ra m rc P)) (fun iv _=>m-(intOf iv).toNat)
   case atStart=>exact⟨0,ca,n,cc,L,out,nZl _,rfl,rfl,HLn.o,HH⟩
   case round =>
    obtain⟨k,ia',im,ic,I,u,hk,rfl,hI,hl,HX⟩:=hrel
    rename World=>V5
    clear HH
    by_cases hlt:k < m
    ·obtain⟨g,e',c0,c1⟩:=aY4 HX.o.r HPn.o hlt
     subst e'
     have htk:P.take (k+1)=P.take k++[P.getD k 0]:=Cde.aG 0 (by rw[HPn.o];exact hlt)
     have hv:=aDi (f:=f) (d:=d) (P.take k) (L,out) h0'
     rw[hI] at hv
     have hnx:=aP1 f d (P.take k) (P.getD k 0) (L,out)
     rw[<-htk,hI] at hnx
     clear htk
     generalize P.getD k 0=p at *
     obtain⟨⟨I',u'⟩,hI'⟩:∃ x,ps1 f d (I,u) p=x:=⟨_,rfl⟩
     rw[hI'] at hnx
     have HNx:=aA hnx
     obtain⟨im',him'⟩:∃ x,I'.length=x:=⟨_,rfl⟩
     have HIm:=aA him'
     obtain⟨fv,hfv⟩:∃ fv,Value.func (Fn.func (fnP p)) #[] #[]=fv:=⟨_,rfl⟩
     replace c1:=c1.trans (congrArg some hfv)
     have hbp:=aD V5 (.cells #[.i p,fv] 221)
     have HX1:=aA (HX.o.below hbp)
     have hins:Ins (V5.alloc (.cells #[.i p,fv] 221)) ia' im ic I:=by
      obtain⟨a'',c'',e1,hI,-⟩:=Ins.of_owns HX1.o.i
      cases e1
      exact hI
     have HC:=aA (aPr p f d u hins hv hI' him')
     have HLt:=aA hlt
     have j1:(k:Int) < m:=by omega
     have j0:(0:Int)<=k:=by omega
     obtain⟨x0,x1,x2,x3⟩:=aC HX.o.b.c
     have z0:=HX.o.b.c.lt
     have hF:=aNx p
     clear hins hv hI' him' hnx hbp hI hl HX
     generalize fnP p=F at hfv HC hF
     rcases hF with rfl|rfl|rfl|rfl
     all_goals
      subst hfv
      go_wp2_with fail
      refine HC.o.mono ?_
      rintro e V6 ⟨a',c',rfl,hO,hb⟩
      have hb2:=aD V6 (.cells (cd f d a' im' c' u') 33)
      have HX2:=aA ((HX1.o.below hb).below hb2)
      have HO2:=aA (Cde.bI (Cde.bS hO HX1.o.b.lo.size) hb2)
      have HM2:=aA (aB.new V6 33 (cd f d a' im' c' u'))
      clear hb hb2 hO HC HX1 x0 x1 x2 x3 z0 c0 c1
      go_upto_region 14 with fail
      obtain⟨V7,hV7⟩:∃ V7,V6.alloc (.cells (cd f d a' im' c' u') 33)=V7:=⟨_,rfl⟩
      obtain⟨bm,hbm⟩:∃ bm,V6.heap.size=bm:=⟨_,rfl⟩
      rw[hV7] at HX2 HO2 HM2 ⊢
      rw[hbm] at HM2 ⊢
      clear hV7 hbm
      obtain⟨x0,x1,x2,x3⟩:=aC HX2.o.b.c
      obtain⟨r0,r1,r2,r3⟩:=bD HX2.o.b.c
      obtain⟨y0,y1,y2,y3⟩:=aC HM2.o
      have HX3:=aA (HX2.o.put (u':=u') HO2.o)
      go_wp2_with fail
      unfold s4 at HX3
      have hlt':=HLt.o
      go_roundw
      case rel=>exact⟨k+1,_,_,_,_,_,by omega,by go_num,HNx.o,HIm.o,HX3⟩
      case measure=>simp[intOf];omega
    ·obtain rfl:k=m:=by omega
     rw[lTl (by rw[HPn.o];omega)] at hI
     have hrn:=HRn.o.trans h0'
     obtain⟨x0,x1,x2,x3⟩:=aC HX.o.b.c
     obtain⟨p0,p1,p2,p3⟩:=aC HX.o.b.r
     obtain⟨r0,r1,r2,r3⟩:=bD HX.o.b.r
     have HF5:=aA (aAr HX.o.b.r HX.o.b.lo (.i f) (.i d) (.slice ia' im ic) (.i u))
     have HO5:=aA (gI HX.o.i (own_ne HX.o.i HX.o.b.r (by decide)) (.i f) (.i d) (.slice ia' im ic) (.i u))
     obtain⟨V6,hV6⟩:∃ V6,(((V5.setCell ⟨W.heap.size+1,0,none⟩ (.i f)).setCell ⟨W.heap.size+1,1,none⟩ (.i d)).setCell ⟨W.heap.size+1,2,none⟩ (.slice ia' im ic)).setCell ⟨W.heap.size+1,3,none⟩ (.i u)=V6:=⟨_,rfl⟩
     unfold s4 at HO5 HF5
     rw[hV6] at HO5 HF5
     have HI:=aA hI
     have HIl:=aA hl
     clear hI hl
     go_wp2_with fail
     obtain⟨q0,q1,q2,q3⟩:=aC HF5.o.1
     exact bPr (v:=.tuple #[.agg (cd f d ia' im ic u),.i 0]) (by simp[results,Tryz.results73,go_sem,q0,q1,q2,q3]) rfl (RnP.row hrn HI.o HIl.o HO5.o HF5.o.2)
  ·have hr:(er != 0)=true:=by simpa using h0
   go_upto_region 6 with fail
   obtain⟨V3,hV3⟩:∃ V3,V2.alloc (.cells #[.slice ga q gc,.i co,.i 0] 55)=V3:=⟨_,rfl⟩
   rw[hV3] at HF2 ⊢
   clear hV3 HR2
   obtain⟨p0,p1,p2,p3⟩:=aC HF2.o.r
   obtain⟨r0,r1,r2,r3⟩:=bD HF2.o.r
   obtain⟨V4,hV4⟩:∃ V4,(((V3.setCell ⟨W.heap.size+1,0,none⟩ (.i 0)).setCell ⟨W.heap.size+1,1,none⟩ (.i 0)).setCell ⟨W.heap.size+1,2,none⟩ (.slice none 0 0)).setCell ⟨W.heap.size+1,3,none⟩ (.i 0)=V4:=⟨_,rfl⟩
   have HF3:=aA (aAr HF2.o.r HF2.o.lo (.i 0) (.i 0) (.slice none 0 0) (.i 0))
   unfold s4 at HF3
   rw[hV4] at HF3
   go_wp2_with fail
   obtain⟨q0,q1,q2,q3⟩:=aC HF3.o.1
   exact bPr (v:=.tuple #[.agg cO,.i er]) (by simp[results,Tryz.results73,go_sem,q0,q1,q2,q3]) rfl (RnP.no (HRn.o.trans HEr.o) h0 HF3.o.2)
 ·have HF1:=aA (HF0.o.below hb)
  clear hb HR HF0
  go_upto_region 3 with fail
  obtain⟨p0,p1,p2,p3⟩:=aC HF1.o.r
  obtain⟨r0,r1,r2,r3⟩:=bD HF1.o.r
  obtain⟨V4,hV4⟩:∃ V4,(((V1.setCell ⟨W.heap.size+1,0,none⟩ (.i 0)).setCell ⟨W.heap.size+1,1,none⟩ (.i 0)).setCell ⟨W.heap.size+1,2,none⟩ (.slice none 0 0)).setCell ⟨W.heap.size+1,3,none⟩ (.i 0)=V4:=⟨_,rfl⟩
  have HF3:=aA (aAr HF1.o.r HF1.o.lo (.i 0) (.i 0) (.slice none 0 0) (.i 0))
  unfold s4 at HF3
  rw[hV4] at HF3
  go_wp2_with fail
  obtain⟨q0,q1,q2,q3⟩:=aC HF3.o.1
  exact bPr (v:=.tuple #[.agg cO,.i 1]) (by simp[results,Tryz.results73,go_sem,q0,q1,q2,q3]) rfl (RnP.no (by rw[rnE,hok];rfl) (by decide) HF3.o.2)
def fV:List Int:=[1,2,3,1,2,4]
theorem aMf (f d out:Int){cap:Nat}{L:List In}(hL:Ins W a n cap L) :
  Calls Tryz.prog 32 #[.agg (cd f d a n cap out)] W (RnP W f d L out fV):=by
 have b1:=aD W (.cells (cd f d a n cap out) 33)
 have b2:=bel b1 (aD _ (.cells cO 33))
 have b3:=aD ((W.alloc (.cells (cd f d a n cap out) 33)).alloc (.cells cO 33)) (.cells (Cde.zA fV) 3)
 have HF0:Hid (Fg W (((W.alloc (.cells (cd f d a n cap out) 33)).alloc (.cells cO 33)).alloc (.cells (Cde.zA fV) 3)) (cd f d a n cap out) cO):=aA ⟨((aB.new W 33 (cd f d a n cap out)).alloc (.cells cO 33)).alloc _,(aJ W (.cells (cd f d a n cap out) 33) 33 cO).alloc _,bel b2 b3⟩
 have hI:=Cde.aWc (aB.new ((W.alloc (.cells (cd f d a n cap out) 33)).alloc (.cells cO 33)) 3 (Cde.zA fV)) (by decide)
 have HR:=aA (aRx f d out (hL.later (bel b2 b3)) hI)
 unfold RnP at HR ⊢
 generalize rnI f d L out fV=I at *
 generalize rnU f d L out fV=u at *
 generalize rnK f d L out fV f=kf at *
 generalize rnK f d L out fV d=kd' at *
 generalize rnE f d L out fV=er at *
 obtain⟨m,hm⟩:∃ m,I.length=m:=⟨_,rfl⟩
 rw[hm] at HR ⊢
 clear b1 b2 b3 hL hI hm
 rw[wSa,wSa] at HR
 go_enter Tryz.func32,Tryz.ntmps32
 go_wp2_with fail
 refine HR.o.mono ?_
 rintro e V1 ⟨a',c',rfl,hO,hb⟩
 have HF1:=aA (HF0.o.below hb)
 have HO1:=aA (Cde.bS hO HF0.o.lo.size)
 clear hb hO HR HF0
 obtain⟨p0,p1,p2,p3⟩:=aC HF1.o.r
 obtain⟨r0,r1,r2,r3⟩:=bD HF1.o.r
 have HF5:=aA (aAr HF1.o.r HF1.o.lo (.i kf) (.i kd') (.slice a' m c') (.i u))
 have HO5:=aA (gI HO1.o (own_ne HO1.o HF1.o.r (by decide)) (.i kf) (.i kd') (.slice a' m c') (.i u))
 obtain⟨V6,hV6⟩:∃ V6,(((V1.setCell ⟨W.heap.size+1,0,none⟩ (.i kf)).setCell ⟨W.heap.size+1,1,none⟩ (.i kd')).setCell ⟨W.heap.size+1,2,none⟩ (.slice a' m c')).setCell ⟨W.heap.size+1,3,none⟩ (.i u)=V6:=⟨_,rfl⟩
 unfold s4 at HO5 HF5
 rw[hV6] at HO5 HF5
 go_wp2_with fail
 obtain⟨q0,q1,q2,q3⟩:=aC HF5.o.1
 exact bPr (v:=.tuple #[.agg (cd kf kd' a' m c' u),.i er]) (by simp[results,Tryz.results32,go_sem,q0,q1,q2,q3]) rfl ⟨a',c',rfl,HO5.o,HF5.o.2⟩
end Go.Proofs.Pss
