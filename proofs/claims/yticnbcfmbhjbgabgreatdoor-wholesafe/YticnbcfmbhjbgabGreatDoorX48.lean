import Derived.Test.YticnbcfmbhjbgabGreatDoorXH
import Derived.Test.YticnbcfmbhjbgabGreatDoorRows
import Derived.MakeChecks
import Derived.Lib.LaidTab
import Derived.OpenShut
import Derived.Stop.LaidErr
import Derived.LaidMore
import Derived.ProofKit
import Derived.Test.YticnbcfmbhjbgabGreatDoorCards
import Derived.Test.YticnbcfmbhjbgabGreatDoorTie
import Derived.SevenTiedAt
import Derived.Test.YticnbcfmbhjbgabGreatDoorX27
import Derived.Test.YticnbcfmbhjbgabGreatDoorX43
import Derived.Test.YticnbcfmbhjbgabGreatDoorX47
import Derived.Test.YticnbcfmbhjbgabGreatDoorX29
import Derived.Test.YticnbcfmbhjbgabGreatDoorX37
import Derived.Test.YticnbcfmbhjbgabGreatDoorX31
import Derived.Test.YticnbcfmbhjbgabGreatDoorX11
import Derived.Test.YticnbcfmbhjbgabGreatDoorX20
import Derived.Test.YticnbcfmbhjbgabGreatDoorX46
import Derived.Test.YticnbcfmbhjbgabGreatDoorX05
set_option maxRecDepth 100000
set_option maxHeartbeats 32000000
set_option linter.unusedVariables false
namespace Go.Proofs.Cpl
open Go.RowKit Go.IntWalk Lx Pz
open YticnbcfmbhjbgabGreatDoor (Wd eZ Fits dX iG wN aB bel aD aA kN rO mxR uV pK oP jG mD Tx Iz Nz aY rootOf Dec pQ jS whole aQ0 Gl CkP mZ vC iH aFl aBq sN aA6 zQ lJ nH bs dL gT sB)
open Cde (In i0 ia kd cd Ins aC aQ dE kZ)
open Vfy (aW)
open Pss (wR eP kS rnE rnI rnU rnK okP)
def TrT (s:ByteArray)(NM:List aN)(es:List E)(ex:E):Prop:=s.size<=1024/\∃ A,ak (bs s)=some A/\GP [] [] A (NM,es,ex)
theorem TrT.parse {s : ByteArray} {NM : List aN} {es : List E} {ex : E} (h : TrT s NM es ex) (w : World) : Calls Tryz.prog 24 #[.string s] w fun e W' => ∃ na nc ba bc da dc, Dec NM (fU es 0) (aY es ex) (rootOf es ex) es ex ∧
      e = .returned (.tuple #[.agg (iG (.slice na es.length nc) (.slice ba es.length bc) (.slice da (bY es + ex.size) dc) (.i (rootOf es ex))), .i 0]) ∧ Tx W' na es.length nc NM ∧ Iz W' ba es.length bc (fU es 0) ∧
      Nz W' da (bY es + ex.size) dc (aY es ex) ∧ Below w.heap.size w W' := by
  obtain ⟨hl, A, ha, hg⟩ := h
  exact aBq ha hl hg w
theorem aHg {s:ByteArray}(h:∀ NM es ex,¬TrT s NM es ex)(w:World):Calls Tryz.prog 24 #[.string s] w fun e W'=>e=.returned (.tuple #[.agg wN,.i 10])/\Below w.heap.size w W':=by
 refine(sN s w).mono ?_
 rintro e W1 (⟨h1,h2,-⟩|⟨T,NM,es,ex,na,nc,ba,bc,da,dc,hT,hA,h3,h4,rfl,h6,h7,h8,h9⟩)
 ·exact⟨h1,h2⟩
 ·refine absurd ⟨?_,T.map ab,(aZr hT).1,(hA _).1 rfl⟩ (h NM es ex)
  unfold tks at hT
  split at hT
  ·cases hT
  ·rw[dL] at *
   omega
theorem aQz (s:ByteArray):(∀ NM es ex,¬TrT s NM es ex)\/∃ NM es ex,TrT s NM es ex:=by
 by_cases h:∃ NM es ex,TrT s NM es ex
 ·exact .inr h
 ·exact .inl fun NM es ex hh=>h ⟨NM,es,ex,hh⟩
theorem aMa (f d out:Int){a:Option Addr}{n cap:Nat}{L:List In}{W:World}(hL:Ins W a n cap L)(h:aW f d L out=0){I:List In}{u:Int}(hI:wR f d eP (L,out)=(I,u)) :
  Calls Tryz.prog 50 #[.agg (cd f d a n cap out)] W fun e W'=>∃ a' c',e=.returned (.tuple #[.agg (cd f d a' I.length c' u),.i 0])/\W'.ownsRow W.heap.size 76 6 (.slice a' I.length c') I.length (dE I)/\Below W.heap.size W W':=by
 refine(Pss.aL9 f d out hL).mono ?_
 rintro e W' ⟨a',c',rfl,hO,hb⟩
 have h1:rnE f d L out eP=0:=by rw[rnE,if_pos (by decide)];exact h
 have e1:rnI f d L out eP=I:=by rw[rnI,if_pos h1,hI]
 rw[e1] at hO
 exact⟨a',c',by rw[e1];simp[rnK,rnU,h1,hI],hO,hb⟩
def txP (NM:List aN)(es:List E)(ex:E):ByteArray:=if 1024 < (whole NM es ex).length then⟨#[]⟩ else sB (whole NM es ex)
theorem aLe {W:World}{na ba da:Option Addr}{nl nc bl bc dl dc:Nat}{root:Int}{NM:List aN}{BS:List Int}{NS:List Nd}(hX:Tx W na nl nc NM)(hB:Iz W ba bl bc BS)(hN:Nz W da dl dc NS)(hG:Gl W){es:List E}{ex:E}(hD:Dec NM BS NS root es ex) :
  Calls Tryz.prog 35 #[.agg (iG (.slice na nl nc) (.slice ba bl bc) (.slice da dl dc) (.i root))] W fun e W'=>(∃ x,e=.returned (.tuple #[.string (txP NM es ex),.i x]))/\Below W.heap.size W W':=by
 refine(aFl hX hB hN hG hD).mono ?_
 rintro e W' ⟨rfl,hb⟩
 refine⟨?_,hb⟩
 unfold txP
 split
 ·exact⟨_,rfl⟩
 ·exact⟨_,rfl⟩
end Go.Proofs.Cpl
namespace Go.Proofs.Cpl
open Go.RowKit Go.IntWalk Lx Pz
open YticnbcfmbhjbgabGreatDoor (Wd eZ Fits dX iG wN aB bel aD aA kN rO mxR uV pK oP jG mD Tx Iz Nz aY rootOf Dec pQ jS whole aQ0 Gl CkP mZ vC iH zQ lJ nH bs sB)
open Cde (In i0 ia kd cd Ins aC aQ dE kZ)
open Knd (May)
open Fld (bF)
open Vfy (aW)
open Pss (wR eP aHk)
structure Cx (W V:World)(bt:Nat)(kv tv:Array Value):Prop where
 k:aB V W.heap.size 35 kv
 t:aB V bt 51 tv
 lo:Below W.heap.size W V
theorem Cx.below {W V V':World}{bt:Nat}{kv tv:Array Value}(h:Cx W V bt kv tv)(hb:Below V.heap.size V V'):Cx W V' bt kv tv:=⟨h.k.below hb,h.t.below hb,bel h.lo hb⟩
theorem yA (f d:Int){s:ByteArray}(h:∀ NM es ex,¬TrT s NM es ex)(W:World) :
  Calls Tryz.prog 18 #[.string s,.agg (dX f d)] W fun e W'=>e=.returned (.tuple #[.pointer none,.i (if May f d then 10 else 1)])/\Below W.heap.size W W':=by
 have HK:=aA fun V=>kZ f d V
 have HP:=aA fun V=>aHg h V
 have HK0:=aA (aB.new W 35 (dX f d))
 have HB0:=aA (aD W (.cells (dX f d) 35))
 clear h
 obtain⟨k0,k1⟩:=aQ HK0.o
 by_cases hm:May f d
 ·rw[if_pos hm] at HK ⊢
  clear hm
  go_enter Tryz.func18,Tryz.ntmps18
  go_wp2_with fail
  refine(HK.o _).mono ?_
  rintro e V1 ⟨rfl,hb⟩
  have HB1:=aA (bel HB0.o hb)
  clear hb HK k0 k1
  go_wp2_with fail
  refine(HP.o _).mono ?_
  rintro e V2 ⟨rfl,hb⟩
  have HB2:=aA (bel (bel HB1.o hb) (aD V2 (.cells wN 51)))
  clear hb HP
  go_wp2_with fail
  exact bPr (v:=.tuple #[.pointer none,.i 10]) (by simp[results,Tryz.results18,go_sem]) rfl ⟨rfl,HB2.o⟩
 ·rw[if_neg hm] at HK ⊢
  clear hm
  go_enter Tryz.func18,Tryz.ntmps18
  go_wp2_with fail
  refine(HK.o _).mono ?_
  rintro e V1 ⟨rfl,hb⟩
  have HB1:=aA (bel HB0.o hb)
  clear hb HK k0 k1
  go_wp2_with fail
  exact bPr (v:=.tuple #[.pointer none,.i 1]) (by simp[results,Tryz.results18,go_sem]) rfl ⟨rfl,HB1.o⟩
def CpA (f d:Int)(NM:List aN)(es:List E)(ex:E)(W:World)(e:Ending)(W':World):Prop :=
 Below W.heap.size W W'/\(
  (kN f d NM (fU es 0) (aY es ex) (rootOf es ex)≠0/\e=.returned (.tuple #[.pointer none,.i (kN f d NM (fU es 0) (aY es ex) (rootOf es ex))])) \/
  (kN f d NM (fU es 0) (aY es ex) (rootOf es ex)=0/\∃ g J u,wR f d eP ((mD f d (fU es 0) (aY es ex)).2,(mD f d (fU es 0) (aY es ex)).1.getD (rootOf es ex).toNat 0)=(J,u)/\aW f d J u=0/\e=.returned (.tuple #[.pointer (some ⟨g,0,none⟩),.i 0])/\Pg W' g f d J u (txP NM es ex) (rO (aY es ex))))
theorem sH (f d:Int){s:ByteArray}{NM:List aN}{es:List E}{ex:E}(h:TrT s NM es ex){W:World}(hG:Gl W) :
  Calls Tryz.prog 18 #[.string s,.agg (dX f d)] W (CpA f d NM es ex W):=by
 have HK:=aA fun V=>kZ f d V
 have HP:=aA fun V=>h.parse V
 have HK0:=aA (aB.new W 35 (dX f d))
 have HB0:=aA (aD W (.cells (dX f d) 35))
 have HG:=aA hG
 clear h hG
 obtain⟨k0,k1,-,-⟩:=YticnbcfmbhjbgabGreatDoor.aQ HK0.o
 by_cases hm:May f d
 ·rw[if_pos hm] at HK
  go_enter Tryz.func18,Tryz.ntmps18
  go_wp2_with fail
  refine(HK.o _).mono ?_
  rintro e V1 ⟨rfl,hb⟩
  have HB1:=aA (bel HB0.o hb)
  have HK1:=aA (HK0.o.below hb)
  clear hb HK k0 k1 HK0 HB0
  go_wp2_with fail
  refine(HP.o _).mono ?_
  rintro e V2 ⟨na,nc,ba,bc,da,dc,hD,rfl,hX,hI,hN,hb⟩
  have hb2:=aD V2 (.cells (iG (.slice na es.length nc) (.slice ba es.length bc) (.slice da (bY es+ex.size) dc) (.i (rootOf es ex))) 51)
  have HD:=aA hD
  have HX:=aA (hX.later hb2)
  have HI:=aA (hI.later hb2)
  have HN:=aA (hN.later hb2)
  have HC2:Hid (Cx W (V2.alloc (.cells (iG (.slice na es.length nc) (.slice ba es.length bc) (.slice da (bY es+ex.size) dc) (.i (rootOf es ex))) 51)) V2.heap.size (dX f d) (iG (.slice na es.length nc) (.slice ba es.length bc) (.slice da (bY es+ex.size) dc) (.i (rootOf es ex)))) :=
   aA ⟨(HK1.o.below hb).below hb2,aB.new _ _ _,bel (bel HB1.o hb) hb2⟩
  obtain⟨k0,k1,-,-⟩:=YticnbcfmbhjbgabGreatDoor.aQ (HK1.o.below hb)
  have z0:=(HK1.o.below hb).lt
  have hs:=zQ hD.ok
  have HCk:=aA (iH f d (root:=rootOf es ex) HX.o HI.o HN.o hs)
  have HS:=aA hs
  clear hD hX hI hN hb hb2 HK1 HB1 HP hs
  generalize hnl0:es.length=nl at *
  generalize hdl:bY es+ex.size=dl at *
  generalize hrt:rootOf es ex=root at *
  generalize hbs:fU es 0=BS at *
  generalize hns:aY es ex=NS at *
  go_wp2_with fail
  generalize V2.heap.size=bt at *
  refine HCk.o.mono ?_
  rintro e V3 (⟨hc,rfl,hb⟩|⟨hc,g,rfl,-,hS,hb⟩)
  ·obtain⟨ce,hce⟩:∃ ce,kN f d NM BS NS root=ce:=⟨_,rfl⟩
   have hr:(ce != 0)=true:=by rw[<-hce];simpa using hc
   have HE:Hid (∀ e W',Below W.heap.size W W'->e=.returned (.tuple #[.pointer none,.i ce])->CpA f d NM es ex W e W'):=aA fun e W' hb he=>⟨hb,.inl ⟨by rw[hbs,hns,hrt];exact hc,by rw[hbs,hns,hrt,hce];exact he⟩⟩
   rw[hce]
   have HB3:=aA (bel (bel HC2.o.lo hb) (aD V3 (.cells jG 56)))
   clear hc hb hce HC2 HCk k0 k1 z0 hbs hns hrt
   go_wp2_with fail
   exact bPr (v:=.tuple #[.pointer none,.i ce]) (by simp[results,Tryz.results18,go_sem]) rfl (HE.o _ _ HB3.o rfl)
  ·have HC0:=aA hc
   have hb2:=aD V3 (.cells #[.slice (some ⟨g,0,none⟩) NS.length NS.length,.i (rO NS),.i (mxR (uV BS NS []))] 56)
   generalize mxR (uV BS NS [])=mx at *
   generalize hco:rO NS=co at *
   have HC3:=aA ((HC2.o.below hb).below hb2)
   have HX3:=aA ((HX.o.later hb).later hb2)
   have HI3:=aA ((HI.o.later hb).later hb2)
   have HN3:=aA ((HN.o.later hb).later hb2)
   have HR3:=aA (aB.new V3 56 #[.slice (some ⟨g,0,none⟩) NS.length NS.length,.i co,.i mx])
   have HLw:=aA (vC f d (root:=root) HX3.o HI3.o HN3.o HS.o)
   obtain⟨k0,k1,-,-⟩:=YticnbcfmbhjbgabGreatDoor.aQ (HC2.o.below hb).k
   obtain⟨t0,t1,t2,t3⟩:=aC (HC2.o.below hb).t
   have z1:=(HC2.o.below hb).k.lt
   have z2:=(HC2.o.below hb).t.lt
   clear hb hb2 hS HC2 HX HI HN HCk hm
   go_wp2_with fail
   generalize V3.heap.size=br at *
   refine HLw.o.mono ?_
   rintro e V4 ⟨F,D,I,o,ca,cc,rfl,hIn,-,hI1,hb⟩
   obtain⟨rfl,rfl,hIl,hol⟩:=hI1 hc
   obtain⟨t1',-⟩:=mZ hc hIl hol
   obtain⟨⟨J,u⟩,hJ⟩:∃ x,wR F D eP (I,o)=x:=⟨_,rfl⟩
   have hk:=aHk (f:=F) (d:=D) eP (I,o) t1'
   rw[hJ] at hk
   rw[hc]
   have hb2:=aD V4 (.cells (cd F D ca I.length cc o) 39)
   have HZ:=aA (aMa F D o (hIn.later hb2) t1' hJ)
   have HJ:=aA hJ
   have HK:=aA hk
   have HIl:=aA hIl
   have HOl:=aA hol
   have HC4:=aA (HC3.o.below hb)
   have HX4:=aA (HX3.o.later hb)
   have HI4:=aA (HI3.o.later hb)
   have HN4:=aA (HN3.o.later hb)
   have HR4:=aA (HR3.o.below hb)
   have HD4:=aA (aB.new V4 39 (cd F D ca I.length cc o))
   have HB4:=aA hb2
   clear hIn hI1 hb hb2 hIl hol t1' hJ hk hc HC3 HX3 HI3 HN3 HR3 HLw k0 k1 t0 t1 t2 t3 z1 z2
   go_wp2_with fail
   refine HZ.o.mono ?_
   rintro e V5 ⟨a',c',rfl,hO,hb⟩
   have hd5:=HD4.o.below hb
   obtain⟨c0,c1,c2,c3⟩:=aC hd5
   obtain⟨f0,f1,f2,f3⟩:=bF hd5
   have hlt:=hd5.lt
   have hO6:=nH hO hd5 (by decide) (.i F) (.i D) (.slice a' J.length c') (.i u)
   obtain⟨hp,hpb⟩:=lJ hd5 (w:=V4) (bel HB4.o hb) (nLr _) (.i F) (.i D) (.slice a' J.length c') (.i u)
   obtain⟨V6,hV6⟩:∃ V6,(((V5.setCell ⟨V4.heap.size,0,none⟩ (.i F)).setCell ⟨V4.heap.size,1,none⟩ (.i D)).setCell ⟨V4.heap.size,2,none⟩ (.slice a' J.length c')).setCell ⟨V4.heap.size,3,none⟩ (.i u)=V6:=⟨_,rfl⟩
   rw[hV6] at hO6 hp hpb
   obtain⟨a9,c9,e2,hJn,-⟩:=Ins.of_owns hO6
   cases e2
   have HJn:=aA hJn
   have HC6:=aA (HC4.o.below hpb)
   have HR6:=aA (HR4.o.below hpb)
   have HD6:=aA hp
   have HPr:=aA (aLe (HX4.o.later hpb) (HI4.o.later hpb) (HN4.o.later hpb) (HG.o.later HC6.o.lo) HD.o)
   obtain⟨t0,t1,t2,t3⟩:=aC HC6.o.t
   clear hO hb hd5 hO6 hp hpb hJn HZ HC4 HX4 HI4 HN4 HR4 HD4 HB4 HG
   go_wp2_with fail
   generalize V4.heap.size=bk at *
   refine HPr.o.mono ?_
   rintro e V7 ⟨⟨px,rfl⟩,hb⟩
   have HC7:=aA (HC6.o.below hb)
   obtain⟨c0,c1,c2,c3⟩:=aC (HD6.o.below hb)
   obtain⟨r0,r1,r2,-,-,-⟩:=YticnbcfmbhjbgabGreatDoor.gG (HR6.o.below hb)
   have HRd:=aA (aLi F D u (txP NM es ex) co (HJn.o.later hb))
   clear hb HC6 HR6 HD6 HPr HJn t0 t1 t2 t3
   go_wp2_with fail
   refine HRd.o.mono ?_
   rintro e V8 ⟨hb,⟨hn,-⟩|⟨-,g8,rfl,hP⟩⟩
   ·exact absurd HK.o hn
   go_wp2_with fail
   exact bPr (v:=.tuple #[.pointer (some ⟨g8,0,none⟩),.i 0]) (by simp[results,Tryz.results18,go_sem]) rfl ⟨bel HC7.o.lo hb,.inr ⟨by rw[hbs,hns,hrt];exact HC0.o,g8,J,u,by rw[hbs,hns,hrt,<-HIl.o,<-HOl.o];exact HJ.o,HK.o,rfl,by rw[hns,hco];exact hP⟩⟩
 ·rw[if_neg hm] at HK
  have hce:kN f d NM (fU es 0) (aY es ex) (rootOf es ex)=1:=by unfold YticnbcfmbhjbgabGreatDoor.kN;rw[if_pos hm]
  have HE:Hid (∀ e W',Below W.heap.size W W'->e=.returned (.tuple #[.pointer none,.i 1])->CpA f d NM es ex W e W'):=aA fun e W' hb he=>⟨hb,.inl ⟨by rw[hce];decide,by rw[hce];exact he⟩⟩
  clear hm hce
  go_enter Tryz.func18,Tryz.ntmps18
  go_wp2_with fail
  refine(HK.o _).mono ?_
  rintro e V1 ⟨rfl,hb⟩
  have HB1:=aA (bel HB0.o hb)
  clear hb HK k0 k1
  go_wp2_with fail
  exact bPr (v:=.tuple #[.pointer none,.i 1]) (by simp[results,Tryz.results18,go_sem]) rfl (HE.o _ _ HB1.o rfl)
end Go.Proofs.Cpl
namespace Go.Proofs.Cpl
open Go.RowKit Go.IntWalk Lx Pz
open Go.Lib (decDigits itoa)
open YticnbcfmbhjbgabGreatDoor (aB bel aD aA kN rO mD aY rootOf whole Gl bs dL gT sB aMj jJ Fo nX aGi aVq aVr aD8 aD9 aJ4)
open Cde (In i0 kd cd Ins dE)
open Vfy (aW)
open Pss (wR eP)

end Go.Proofs.Cpl
namespace Go.Proofs.Cpl
open Go.RowKit Go.IntWalk Lx Pz
open YticnbcfmbhjbgabGreatDoor (Wd eZ dX aB bel aD aA Ls aEy nG FlP wd0)
open Cde (aC)
theorem aOk (x:Int){m:Nat}(hm4:m<=44)(W:World):Calls Tryz.prog 52 #[.i m,.i x] W (FlP W m x):=by
 have hb2:=aD W (.cells (wd0 (.slice none 0 0)) 24)
 have hb3:=bel hb2 (aD (W.alloc (.cells (wd0 (.slice none 0 0)) 24)) (.cells (wd0 (.slice none 0 0)) 24))
 have HR0:=aA ((aB.new W 24 (wd0 (.slice none 0 0))).alloc (.cells (wd0 (.slice none 0 0)) 24))
 have HW0:Hid (aB ((W.alloc (.cells (wd0 (.slice none 0 0)) 24)).alloc (.cells (wd0 (.slice none 0 0)) 24)) (W.heap.size+1) 24 (wd0 (.slice none 0 0))):=by
  have:=aB.new (W.alloc (.cells (wd0 (.slice none 0 0)) 24)) 24 (wd0 (.slice none 0 0))
  simp only[wSa] at this
  exact aA this
 have HL0:Hid (Ls W ((W.alloc (.cells (wd0 (.slice none 0 0)) 24)).alloc (.cells (wd0 (.slice none 0 0)) 24)) (.slice none 0 0) []):=aA ((Ls.start W).later hb3)
 clear hb2 hb3
 go_enter Tryz.func52,Tryz.ntmps52
 go_wp2_with fail
 go_loopw [6] (fun i wr=>∃(k:Nat) (sv:Value),k<=m/\i=.i k/\Hid (Ls W wr sv (List.replicate k x))/\Hid (aB wr W.heap.size 24 (wd0 (.slice none 0 0)))/\Hid (aB wr (W.heap.size+1) 24 (wd0 sv))) (fun i _=>m-(intOf i).toNat)
 case atStart=>exact⟨0,_,nZl _,rfl,HL0,HR0,HW0⟩
 case round =>
  obtain⟨k,sv,hk,rfl,HL1,HR1,HW1⟩:=hrel
  rename World=>V
  clear HL0 HR0 HW0
  by_cases hlt:k < m
  ·have h1:decide ((k:Int) < (m:Int))=true:=by simpa using hlt
   obtain⟨w0,w1,w2,w3⟩:=aC HW1.o
   have z2:=HW1.o.lt
   have HJ:Hid ((List.replicate k x).length=k):=aA (by simp)
   go_wp2_with (at_builtin;refine aEy (w:=W) (L:=List.replicate k x) rfl _ _ rfl rfl (HL1.o.alloc _) _ x rfl (aB.new _ _ _) (by rw[HJ.o];omega) ?_;intro g2 cap2 w2 HE2 HKp;rw[HJ.o] at HE2 ⊢;obtain⟨u0,u1,u2,u3⟩:=aC ((HW1.o.alloc (.cells #[.i x] 3)).kp HKp (by decide));have u4:=((HW1.o.alloc (.cells #[.i x] 3)).kp HKp (by decide)).frozen 3)
   have HW2:=(HW1.o.alloc (.cells #[.i x] 3)).kp HKp (by decide)
   have HR2:=(HR1.o.alloc (.cells #[.i x] 3)).kp HKp (by decide)
   go_roundw
   case rel=>exact⟨k+1,.slice (some ⟨g2,0,none⟩) (k+1) cap2,by omega,by go_num,aA (by rw[List.replicate_succ'];exact HE2.put HW2 (by decide) (by omega) 3 _),aA (HR2.other (p:=⟨W.heap.size+1,3,none⟩) (by simp <;> omega) _),aA (HW2.set 3 _)⟩
   case measure=>simp[intOf];omega
  ·obtain rfl:k=m:=by omega
   have h1:decide ((k:Int) < (k:Int))=false:=by simp
   obtain⟨va,vn,vc,rfl⟩:∃ a n c,sv=.slice a n c:=by
    rcases nG HL1.o.a with⟨h,-⟩|⟨g,c,h⟩
    ·exact⟨_,_,_,h⟩
    ·exact⟨_,_,_,h⟩
   obtain⟨w0,w1,w2,w3⟩:=aC HW1.o
   obtain⟨r0,r1,r2,r3⟩:=aC HR1.o
   have y0:=HR1.o.frozen 0
   have y1:=HR1.o.frozen 1
   have y2:=HR1.o.frozen 2
   have y3:=HR1.o.frozen 3
   go_wp2_with fail
   have s0:=HR1.o.set 0 (.i 0)
   have s1:=s0.set 1 (.i 0)
   have s2:=s1.set 2 (.i 0)
   have s3:=s2.set 3 (.slice va vn vc)
   have c0:=s3.cell 0 rfl
   have c1:=s3.cell 1 rfl
   have c2:=s3.cell 2 rfl
   have c3:=s3.cell 3 rfl
   have l3:=(((HL1.o.put HR1.o (by decide) (by omega) 0 (.i 0)).put s0 (by decide) (by omega) 1 (.i 0)).put s1 (by decide) (by omega) 2 (.i 0)).put s2 (by decide) (by omega) 3 (.slice va vn vc)
   exact bPr (v:=.agg (wd0 (.slice va vn vc))) (by simp[results,Tryz.results52,go_sem,c0,c1,c2,c3]) rfl ⟨_,rfl,l3⟩
end Go.Proofs.Cpl
namespace Go.Proofs.Cpl
open Go.RowKit Go.IntWalk Lx Pz
open YticnbcfmbhjbgabGreatDoor (Wd eZ dX aB bel aD aA Gl Ls nG wd0 kN rO mD aY rootOf bs gT sB awT awK wI aVt aVv aVu awL Fits aF)
open Cde (In aC fQ jQ aP)
open Vfy (aW aI)
open Vmm (vL rnX rnN)
open Chn (hrV hrX)
open Pss (wR eP)
theorem bAm:TrT (sB awT) [] [] wI:=⟨by decide,awK,by rw[gT];exact aVt,aVv⟩
abbrev mdW:Wd:=⟨0,0,0,awL⟩
theorem aTg:Fits 0 8 mdW:=by
 refine⟨⟨⟨⟨0,4095,by decide +kernel,by decide,by decide⟩,⟨0,4095,by decide +kernel,by decide,by decide⟩⟩,⟨0,3,by decide +kernel,by decide,by decide⟩⟩,by decide +kernel,?_⟩
 decide +kernel
theorem bAn:(jQ 0 8 mdW (wR 0 8 eP ((mD 0 8 (fU [] 0) (aY [] wI)).2,(mD 0 8 (fU [] 0) (aY [] wI)).1.getD (rootOf [] wI).toNat 0)).1).1=0 /\
 (jQ 0 8 mdW (wR 0 8 eP ((mD 0 8 (fU [] 0) (aY [] wI)).2,(mD 0 8 (fU [] 0) (aY [] wI)).1.getD (rootOf [] wI).toNat 0)).1).2.length=6 /\
 (jQ 0 8 mdW (wR 0 8 eP ((mD 0 8 (fU [] 0) (aY [] wI)).2,(mD 0 8 (fU [] 0) (aY [] wI)).1.getD (rootOf [] wI).toNat 0)).1).2.getD (wR 0 8 eP ((mD 0 8 (fU [] 0) (aY [] wI)).2,(mD 0 8 (fU [] 0) (aY [] wI)).1.getD (rootOf [] wI).toNat 0)).2.toNat 0=27:=by decide +kernel
theorem aXn {J:List In}{u:Int}(hJ:wR 0 8 eP ((mD 0 8 (fU [] 0) (aY [] wI)).2,(mD 0 8 (fU [] 0) (aY [] wI)).1.getD (rootOf [] wI).toNat 0)=(J,u))(h:aW 0 8 J u=0) :
  vL (fQ 0 8 mdW J u) u=.tuple #[.i 27,.i 6,.i 0]/\hrV (fQ 0 8 mdW J u) u=.tuple #[.i 27,.i 0]:=by
 obtain⟨mc,-⟩:=aI h
 have hv:=bAn
 rw[hJ] at hv
 obtain⟨h1,h2,h3⟩:=hv
 have hz:fQ 0 8 mdW J u=jQ 0 8 mdW J:=by rw[fQ,if_pos mc,if_pos aTg]
 rw[hz]
 refine⟨?_,?_⟩
 ·unfold Vmm.vL Vmm.rnX Vmm.rnN
  rw[h1,if_pos rfl,if_pos rfl,h3,h2];rfl
 ·unfold Chn.hrV Chn.hrX
  rw[h1,if_pos rfl,h3]
theorem aP1 {W:World}(hG:Gl W):Calls Tryz.prog 19 #[] W fun e w'=>e=.returned (.bool true)/\Below W.heap.size W w':=by
 have HC:=aA (sH 0 8 bAm hG)
 have HM:=aA fun V=>aOk 10 (m:=44) (by decide) V
 clear hG
 go_enter Tryz.func19,Tryz.ntmps19
 go_wp2_with fail
 refine HC.o.mono ?_
 rintro e V1 ⟨hb,⟨hc,-⟩|⟨-,g,J,u,hJ,hv,rfl,hP⟩⟩
 ·exact absurd aVu hc
 obtain⟨hr1,hr2⟩:=aXn hJ hv
 have HV:=aA fun(V:World) (pa:Option Addr) (pl pc:Nat) (hP:Pg V g 0 8 J u (txP [] [] wI) (rO (aY [] wI))) (hI:Knd.Ints V pa pl pc awL)=>jP mdW hP hI hv
 have HQ:=aA fun(V:World) (pa:Option Addr) (pl pc:Nat) (hP:Pg V g 0 8 J u (txP [] [] wI) (rO (aY [] wI))) (hI:Knd.Ints V pa pl pc awL)=>aLg mdW hP hI hv
 rw[hr1] at HV
 rw[hr2] at HQ
 have HP1:=aA hP
 have HB1:=aA hb
 clear hb hJ hv hP HC hr1 hr2
 go_wp2_with fail
 refine(HM.o _).mono ?_
 rintro e V2 ⟨sv,rfl,hL⟩
 obtain⟨q,cap,rfl,hq⟩:=hL.form (by simp)
 rw[List.length_replicate] at hL ⊢
 have hb:=hL.bel
 have hgl:=(hL.a.lt q rfl).2
 have z1:=World.ownsRow.frozenAt hL.a 16
 have z2:=World.ownsRow.frozenAt hL.a 10
 have c1:=World.ownsRow.cellAt hL.a 16 (by decide)
 have c2:=World.ownsRow.cellAt hL.a 10 (by decide)
 rw[show (YticnbcfmbhjbgabGreatDoor.iX (List.replicate 44 10))[16]?=some (.i 10) from rfl] at c1
 rw[show (YticnbcfmbhjbgabGreatDoor.iX (List.replicate 44 10))[10]?=some (.i 10) from rfl] at c2
 have HL2:=aA ((((hL.set (by simp) 16 7).set (by simp) 10 30).alloc (.cells (wd0 (.slice (some ⟨q,0,none⟩) 44 cap)) 24)).drew)
 have HW2:=aA ((aB.new ((V2.setCell ⟨q,16,none⟩ (.i 7)).setCell ⟨q,10,none⟩ (.i 30)) 24 (wd0 (.slice (some ⟨q,0,none⟩) 44 cap))).below (aF _))
 simp only[World.size_setCell] at HW2
 clear hb hL HM
 go_wp2_with fail
 go_region
 all_goals
  obtain⟨V3,hV3⟩:∃ V3,(((V2.setCell ⟨q,16,none⟩ (.i 7)).setCell ⟨q,10,none⟩ (.i 30)).alloc (.cells (wd0 (.slice (some ⟨q,0,none⟩) 44 cap)) 24)).drew=V3:=⟨_,rfl⟩
  rw[hV3] at HL2 HW2 ⊢
  have HI:Hid (Knd.Ints V3 (some ⟨q,0,none⟩) 44 cap awL):=aA (HL2.o.ints rfl)
  have HP3:=aA (HP1.o.later HL2.o.bel)
  have HB3:=aA (bel HB1.o HL2.o.bel)
  obtain⟨w0,w1,w2,w3⟩:=aC HW2.o
  clear hV3 HL2 HP1 HB1 z1 z2 c1 c2
  go_wp2_with fail
  refine(HV.o _ _ _ _ HP3.o HI.o).mono ?_
  rintro e V4 ⟨rfl,hb⟩
  have HP4:=aA (HP3.o.later hb)
  have HI4:=aA (HI.o.later hb)
  have HB4:=aA (bel HB3.o hb)
  have HW4:=aA (HW2.o.below hb)
  clear hb HV HP3 HI HB3 HW2 w0 w1 w2 w3
  obtain⟨w0,w1,w2,w3⟩:=aC HW4.o
  go_wp2_with fail
  refine(HQ.o _ _ _ _ HP4.o HI4.o).mono ?_
  rintro e V5 ⟨rfl,hb⟩
  have HB5:=aA (bel HB4.o hb)
  clear hb HQ HP4 HI4 HB4 HW4 w0 w1 w2 w3
  go_wp2_with fail
  go_ret
  exact⟨rfl,HB5.o⟩
end Go.Proofs.Cpl
namespace Go.Proofs.Cpl
open Go.RowKit Go.IntWalk
open YticnbcfmbhjbgabGreatDoor (Wd eZ dX aB kN rO aY rootOf Gl Fits fG)
open Knd
open Pz (fU)
open Cde (In i0 ia kd cd Ins Ls jU dE rM aH aC bE zA fA aG bV fQ TwP aP bZ lL aHo gK eF sF spn eQ)
open Vfy (aW pG oQ nR w32 aI gJ xO)
open Vmm (Mc uE zL vL rnX rnN rE aJn)
structure Sf (W V:World)(bc br:Nat)(kv wv cv rv:Array Value):Prop where
 k:aB V W.heap.size 35 kv
 w:aB V (W.heap.size+1) 24 wv
 c:aB V bc 39 cv
 r:aB V br 56 rv
 lo:Below W.heap.size W V
theorem Sf.below {W V V':World}{bc br:Nat}{kv wv cv rv:Array Value}(h:Sf W V bc br kv wv cv rv)(hb:Below V.heap.size V V'):Sf W V' bc br kv wv cv rv:=⟨h.k.below hb,h.w.below hb,h.c.below hb,h.r.below hb,bel h.lo hb⟩
structure Sk (W V:World)(kv wv:Array Value):Prop where
 k:aB V W.heap.size 35 kv
 w:aB V (W.heap.size+1) 24 wv
 lo:Below W.heap.size W V
theorem Sk.below {W V V':World}{kv wv:Array Value}(h:Sk W V kv wv)(hb:Below V.heap.size V V'):Sk W V' kv wv:=⟨h.k.below hb,h.w.below hb,bel h.lo hb⟩
theorem Sk.new (W:World)(kv wv:Array Value):Sk W ((W.alloc (.cells kv 35)).alloc (.cells wv 24)) kv wv:=by
 refine⟨(aB.new W 35 kv).alloc (.cells wv 24),?_,bel (aD W (.cells kv 35)) (aD (W.alloc (.cells kv 35)) (.cells wv 24))⟩
 have:=aB.new (W.alloc (.cells kv 35)) 24 wv
 simp only[wSa] at this
 exact this
theorem aLn (f d:Int)(s:ByteArray)(v:Wd){pa:Option Addr}{pl pc:Nat}{W:World}(hP:Ints W pa pl pc v.ps)(hG:Gl W) :
  Calls Tryz.prog 6 #[.string s,.agg (dX f d),.agg (eZ v pa pl pc)] W fun e w'=>e=.returned (.bool true)/\Below W.heap.size W w':=by
 have HQ0:=aA (Sk.new W (dX f d) (eZ v pa pl pc))
 have HG:=aA hG
 have HPI:=aA hP
 have HR:=aA fun(V:World) (hb:Below W.heap.size W V)=>aP1 (hG.later hb)
 have HF:=aA fun w h=>yL f d v.x v.y v.c pa pl pc v.ps w h
 clear hG hP
 obtain⟨k0,k1⟩:=Cde.aQ HQ0.o.k
 have hno:∀ er:Int,er≠0->(∀ V:World,Below W.heap.size W V->Calls Tryz.prog 18 #[.string s,.agg (dX f d)] V fun e W'=>e=.returned (.tuple #[.pointer none,.i er])/\Below V.heap.size V W')->Calls Tryz.prog 6 #[.string s,.agg (dX f d),.agg (eZ v pa pl pc)] W fun e w'=>e=.returned (.bool true)/\Below W.heap.size W w':=by
  intro er h0 hC
  have HC:=aA hC
  have hr:(er != 0)=true:=by simpa using h0
  clear hC h0
  go_enter Tryz.func6,Tryz.ntmps6
  go_wp2_with fail
  refine(HC.o _ HQ0.o.lo).mono ?_
  rintro e V1 ⟨rfl,hb⟩
  have HB1:=aA (bel HQ0.o.lo hb)
  clear hb HC HQ0 k0 k1
  go_wp2_with fail
  refine(HR.o _ HB1.o).mono ?_
  rintro e V2 ⟨rfl,hb⟩
  have HB2:=aA (bel HB1.o hb)
  clear hb HB1
  go_wp2_with fail
  refine(HR.o _ HB2.o).mono ?_
  rintro e V3 ⟨rfl,hb⟩
  have HB3:=aA (bel HB2.o hb)
  clear hb HB2
  go_wp2_with fail
  go_ret
  exact⟨rfl,HB3.o⟩
 rcases aQz s with h|⟨NM,es,ex,h⟩
 ·by_cases hm:May f d
  ·exact hno 10 (by decide) fun V hb=>(yA f d h V).mono fun e W' h=>by rw[if_pos hm] at h;exact h
  ·exact hno 1 (by decide) fun V hb=>(yA f d h V).mono fun e W' h=>by rw[if_neg hm] at h;exact h
 by_cases hc:kN f d NM (fU es 0) (aY es ex) (rootOf es ex)=0
 rotate_left
 ·exact hno _ hc fun V hb=>(sH f d h (HG.o.later hb)).mono fun e W' ⟨hb',h⟩=>by
   rcases h with⟨-,h⟩|⟨h,-⟩
   ·exact⟨h,hb'⟩
   ·exact absurd h hc
 have HC:=aA (fun(V:World) (hb:Below W.heap.size W V)=>sH f d h (HG.o.later hb))
 have HE:=aA hc
 clear h hc hno
 go_enter Tryz.func6,Tryz.ntmps6
 go_wp2_with fail
 refine(HC.o _ HQ0.o.lo).mono ?_
 rintro e V1 ⟨hb,⟨hn,-⟩|⟨-,gp,J,u,hJ,hv,rfl,hPg⟩⟩
 ·exact absurd HE.o hn
 have HQ1:=aA (HQ0.o.below hb)
 have HP1:=aA hPg
 have H0:=aA hv
 obtain⟨hco,h200⟩:=aUk HE.o hJ
 clear hb hJ hv hPg HC HQ0 k0 k1 HE
 generalize txP NM es ex=st at *
 generalize rO (aY es ex)=co at *
 go_wp2_with fail
 refine(HR.o _ HQ1.o.lo).mono ?_
 rintro e V2 ⟨rfl,hb⟩
 have HQ2:=aA (HQ1.o.below hb)
 have HP2:=aA (HP1.o.later hb)
 clear hb HQ1 HP1
 obtain⟨k0,k1⟩:=Cde.aQ HQ2.o.k
 obtain⟨w0,w1,w2,w3⟩:=aC HQ2.o.w
 have HFi:=aA (HF.o _ (HPI.o.later HQ2.o.lo))
 rcases fG f d v with⟨hF,h1⟩|⟨hF,h1⟩
 ·rw[h1] at HFi
  go_wp2_with fail
  refine HFi.o.mono ?_
  rintro e V3 ⟨rfl,hb⟩
  have HQ3:=aA (HQ2.o.below hb)
  have HP3:=aA (HP2.o.later hb)
  have HCo:=aA fun(V:World) (h:Pg V gp f d J u st co)=>aM5 h H0.o
  clear hb HQ2 HP2 HFi HF k0 k1 w0 w1 w2 w3 h1
  go_wp2_with fail
  refine(HCo.o _ HP3.o).mono ?_
  rintro e V4 ⟨ca,cc,rfl,hO,hb⟩
  obtain⟨ca',cc',ec,hI,-⟩:=Ins.of_owns hO
  cases ec
  obtain⟨n,hn⟩:∃ n,J.length=n:=⟨_,rfl⟩
  rw[hn] at hI hco ⊢
  have hb2:=aD V4 (.cells (cd f d ca n cc u) 39)
  have HLn:=aA hn
  have HLI:=aA (hI.later hb2)
  have HQ4:=aA ((HQ3.o.below hb).below hb2)
  have HP4:=aA ((HP3.o.later hb).later hb2)
  have HC4:=aA (aB.new V4 39 (cd f d ca n cc u))
  obtain⟨-,h200',-⟩:=gJ H0.o
  obtain⟨mc,-,-,-,hvn,hvc⟩:=aI H0.o
  obtain⟨-,m1,m2,m3,m4,-⟩:=aP mc
  rw[HLn.o] at m1 m2 m4 hvn
  obtain⟨cj,hcj⟩:∃ x,eQ J=x:=⟨_,rfl⟩
  rw[hcj] at hvc
  have HV:=aA (Vfy.dH f d u HLI.o)
  unfold Vfy.VfP at HV
  rw[H0.o,hvn,hvc] at HV
  have HSl:Hid ((nR f d J u).length=n):=aA (by rw[Vfy.aU5,hvn])
  clear hO hI hb hb2 HQ3 HP3 HCo hn mc hcj hvn hvc h200'
  go_wp2_with fail
  generalize V4.heap.size=bc at *
  refine HV.o.mono ?_
  rintro e V5 ⟨ga,gc,rfl,hS,hb,-,-⟩
  have hb2:=aD V5 (.cells #[.slice ga n gc,.i cj,.i 0] 56)
  have HQ5:Hid (Sf W (V5.alloc (.cells #[.slice ga n gc,.i cj,.i 0] 56)) bc V5.heap.size (dX f d) (eZ v pa pl pc) (cd f d ca n cc u) #[.slice ga n gc,.i cj,.i 0]):=aA ⟨(HQ4.o.k.below hb).below hb2,(HQ4.o.w.below hb).below hb2,(HC4.o.below hb).below hb2,aB.new _ _ _,bel (bel HQ4.o.lo hb) hb2⟩
  have HP5:=aA ((HP4.o.later hb).later hb2)
  have HS5:=aA (hS.later hb2)
  have HL5:=aA ((HLI.o.later hb).later hb2)
  have HN:=aA (uE f d u HL5.o)
  obtain⟨c0,c1',c2,c3⟩:=aC (HC4.o.below hb)
  have hz:=(HC4.o.below hb).lt
  clear hb hb2 hS HQ4 HP4 HC4 HLI HV
  go_wp2_with fail
  generalize V5.heap.size=br at *
  refine HN.o.mono ?_
  rintro e V6 ⟨hb,⟨hn0,-⟩|⟨-,gm,a1,n1,c1,rfl,hM⟩⟩
  ·exact absurd H0.o hn0
  have HQ6:=aA (HQ5.o.below hb)
  have HP6:=aA (HP5.o.later hb)
  have HS6:=aA (HS5.o.later hb)
  have HL6:=aA (HL5.o.later hb)
  have HT:=aA (zL v hM (HPI.o.later HQ6.o.lo) H0.o)
  clear hb hM HQ5 HP5 HS5 HL5 HN c0 c1' c2 c3 hz
  obtain⟨k0,k1⟩:=Cde.aQ HQ6.o.k
  obtain⟨c0,c1',c2,c3⟩:=aC HQ6.o.c
  obtain⟨w0,w1,w2,w3⟩:=aC HQ6.o.w
  rcases rE H0.o v with⟨-,D,hD,hDl,-,-,-⟩|⟨hF2,-⟩
  rotate_left
  ·exact absurd hF hF2
  rw[HLn.o] at hDl
  rw[hD] at HT
  have HAt:=aA fun(k:Nat) hk=>aJn H0.o hF hD (k:=k) hk
  have HFt:=aA hF
  have HD:=aA hD
  have HDl:=aA hDl
  have q0:(f==f)=true:=by simp
  have q00:(d==d)=true:=by simp
  clear hF hD hDl
  go_wp2_with fail
  refine HT.o.mono ?_
  rintro e V7 ⟨la,lc,rfl,hO,hb⟩
  have HQ7:=aA (HQ6.o.below hb)
  have HP7:=aA (HP6.o.later hb)
  have HS7:=aA (HS6.o.later hb)
  have HL7:=aA (HL6.o.later hb)
  have HI7:=aA (Cde.aJw hO)
  rw[HDl.o] at HI7
  dsimp only
  rw[HDl.o]
  clear hb hO HT HQ6 HP6 HS6 HL6 k0 k1 c0 c1' c2 c3 w0 w1 w2 w3 q0 q00
  obtain⟨c0,c1',c2,c3⟩:=aC HQ7.o.c
  obtain⟨r0,r1,r2,-,-,-⟩:=Vfy.gG HQ7.o.r
  have HCs:=aA fun(V:World) (h:Pg V gp f d J u st co)=>(pU h).mono fun e W' (h:e=.returned (.i co)/\W'=V)=>h
  have q1:decide (co < (n:Int))=false:=by simp;omega
  have q2:decide ((200:Int) < co)=false:=by simp;omega
  have q3:((n:Int) != (n:Int))=false:=by simp
  have q4:((n:Int)==0)=false:=by simp;omega
  go_wp2_with fail
  refine(HCs.o _ HP7.o).mono ?_
  rintro e V8 ⟨rfl,rfl⟩
  go_wp2_with fail
  refine(HCs.o _ HP7.o).mono ?_
  rintro e V9 ⟨rfl,rfl⟩
  go_wp2_with fail
  have hn0:n<=200:=m2
  clear c0 c1' c2 c3 r0 r1 r2 q1 q2 q3 q4 hco h200 HCs
  go_loopw [16] (fun i wr=>∃ k:Nat,k<=n/\i=.i k/\Hid (Below V9.heap.size V9 wr)) (fun i _=>n-(intOf i).toNat)
  case atStart=>exact⟨0,nZl _,rfl,aA (Below.refl _ _)⟩
  case round =>
   obtain⟨k,hk,rfl,HBk⟩:=hrel
   rename World=>Vr
   by_cases hlt:k < n
   ·obtain⟨hok,hv,i1,i2,i3⟩:=HAt.o k (by rw[HLn.o];exact hlt)
    have HQr:=aA (HQ7.o.below HBk.o)
    obtain⟨c0,c1',c2,c3⟩:=aC HQr.o.c
    obtain⟨gi,offi,rfl,-,hati⟩:=(HL7.o.later HBk.o).at (by omega)
    obtain⟨e0,e1,e2,e3,e4,e5⟩:=hati k hlt
    obtain⟨x,hx⟩:∃ x,D.getD k 0=x:=⟨_,rfl⟩
    rw[hx] at hv i1 i2 i3
    obtain⟨m,hm⟩:∃ m,J.getD k i0=m:=⟨_,rfl⟩
    rw[hm] at hok hv e0 e1 e2 e3 e4 e5
    have HMd:=aA hm
    clear hati hm
    have hbn:=aD Vr (.cells (ia m) 76)
    have HM:=aA (aB.new Vr 76 (ia m))
    have HB1:=aA (bel HBk.o hbn)
    have hzc:=HQr.o.c.lt
    have j0:(0:Int)<=k:=by omega
    have j1:(k:Int) < n:=by omega
    go_wp2_with fail
    obtain⟨W1,hW1⟩:∃ W1,Vr.alloc (.cells #[.i m.op,.i m.a,.i m.b,.i m.c,.i m.k,.i m.s] 76)=W1:=⟨_,rfl⟩
    rw[show Vr.alloc (.cells (ia m) 76)=W1 from hW1] at HM HB1 hbn
    rw[hW1]
    obtain⟨bn,hbn2⟩:∃ b,Vr.heap.size=b:=⟨_,rfl⟩
    rw[hbn2] at HM ⊢
    have HQ1:=aA (HQr.o.below hbn)
    clear hW1 hbn hbn2 e0 e1 e2 e3 e4 e5 c0 c1' c2 c3 hzc HQr HBk
    obtain⟨b1,o1,he1,-,hc1⟩:=(HS7.o.later HB1.o).at (by omega)
    obtain⟨s0,s1⟩:=hc1 k hlt
    obtain⟨b5,o5,he5,-,hat5⟩:=(HI7.o.later HB1.o).at (by omega)
    have s2:=hat5 k hlt
    rw[hx] at s2
    subst he1 he5
    have r0:=HQ1.o.r.cell 0 rfl
    obtain⟨w0,w1,w2,w3⟩:=aC HQ1.o.w
    obtain⟨e0,e1,e2,e3,e4,e5⟩:=aH HM.o
    have HSf:=aA (aHq HFt.o hok hv)
    generalize ((nR f d J u).getD k (0,0)).1=lo' at *
    generalize ((nR f d J u).getD k (0,0)).2=hi' at *
    have HH:=aA fun w=>Spn.aCu lo' hi' x w
    rw[show Spn.hasB lo' hi' x=true from Spn.yX.2 ⟨i1,i2⟩] at HH
    have HWd:=aA fun(w:World)=>(Spn.dV x w).mono fun e w' (h:_/\w'=w)=>(⟨h.1,by rw[h.2];exact Below.refl _ _⟩:e=.returned (.bool (Spn.wd x))/\Below w.heap.size w w')
    rw[show Spn.wd x=true from Spn.bX.2 i3] at HWd
    have HOk:=aA hok
    have HVl:=aA hv
    have HX:=aA hx
    clear i1 i2 i3 hc1 hat5 hok hv hx
    have y0:=cell_regrown s0
    have y1:=cell_regrown s1
    have y2:=cell_regrown s2
    have y3:=cell_regrown r0
    have y4:=cell_regrown w3
    have y5:=cell_regrown e0
    by_cases h3:m.op=3
    case' pos =>
     obtain⟨hk0,hk1,hk2⟩:=HSf.o h3
     obtain⟨kp,hkp⟩:∃ kp:Nat,m.k=kp:=⟨m.k.toNat,by omega⟩
     rw[hkp] at hk0 hk1 hk2 e4
     have hpl:=HPI.o.len
     rw[hpl] at hk1
     obtain⟨bp,op,hep,-,hatp⟩:=(HPI.o.later HQ1.o.lo).at (by omega)
     have s9:=hatp kp (by omega)
     rw[iTn] at hk2
     rw[hk2] at s9
     subst hep
     have y6:=cell_regrown e4
     have y7:=cell_regrown s9
     have p0:(m.op==3)=true:=by simpa using h3
     have p1:decide ((kp:Int) < 0)=false:=by simp
     have p2:decide ((pl:Int)<=(kp:Int))=false:=by simp;omega
     have p2':decide (pl<=kp)=false:=by simp;omega
     have p3:(x != x)=false:=by simp
     have p4:(kp:Int) < pl:=by omega
    case' neg =>
     have p0:(m.op==3)=false:=by simpa using h3
    all_goals
     refine wp_region_quiet_below Cde.kC (by kernel_rfl) ?_
     repeat (first|go_big_quiet_step (first
      | (go_at_call 32;exact Calls.regrown_of (HH.o _))
      | (go_at_call 31;exact Calls.regrown_of (HWd.o _))))
     refine wpQuiet_nil ?_
     intro Vs hw'
     obtain⟨⟨dq,osq⟩,hw''⟩:=hw'
     have hb:=below_regrown W1 dq osq
     simp only at hw''
     rw[<-hw''] at hb
     have HBs:=aA (bel HB1.o hb)
     have HQs:=aA (HQ1.o.below hb)
     have HMs:=aA (HM.o.below hb)
     clear hw'' hb HH HWd HB1 HQ1 HM HSf
     try clear y6 y7 p0 p1 p2 p2' p3 p4 e4 s9 hatp hk0 hk1 hk2 hpl
     clear y0 y1 y2 y3 y4 y5 s0 s1 s2 r0 w0 w1 w2 w3 e0 e1 e2 e3 e5
     try clear e4
     try clear hkp
     have HAg:=aA fun w=>Cde.uT m w
     have har:=Cde.zT HOk.o
     obtain⟨r,hr⟩:∃ r:Nat,Spn.ar m.op=(r:Int):=⟨(Spn.ar m.op).toNat,by omega⟩
     have hrN:bZ m=r:=by unfold bZ;omega
     have hr3:r<=3:=by have:=Cde.jW m;omega
     rw[hrN] at HAg
     have HR2:=aA fun j (hj:j < r)=>Cde.oG HOk.o (j:=j) (by rw[hrN];exact hj)
     have HAt3:=aA fun j (hj:j < r)=>sF D m j (by rw[hrN];exact hj)
     have HAl:Hid ((gK D m).length=r):=aA (by rw[eF,hrN])
     have HVz:Hid (0 < r->Spn.bK m.op m.k m.s (gK D m)=(x,0)):=aA fun h0=>by
      have h:=HVl.o
      have h1:m.op≠1:=fun e=>by rw[e] at hr;have h9:Spn.ar 1=0:=(by decide);omega
      have h2:m.op≠2:=fun e=>by rw[e] at hr;have h9:Spn.ar 2=0:=(by decide);omega
      have h3:m.op≠3:=fun e=>by rw[e] at hr;have h9:Spn.ar 3=0:=(by decide);omega
      rw[bV,if_neg h1,if_neg h2,if_neg h3] at h
      exact h
     obtain⟨e0,e1,e2,e3,e4,e5⟩:=aH HMs.o
     clear har hr hrN HVl HOk h3
     go_wp2_with fail
     refine(HAg.o _).mono ?_
     rintro e V6 ⟨rfl,hG,hb⟩
     have HB6:=aA (bel HBs.o hb)
     have HQ6:=aA (HQs.o.below hb)
     have HM6:=aA (HMs.o.below hb)
     have HGg:=aA hG
     have hgl:=HGg.o.lt
     clear hG hb e0 e1 e2 e3 e4 e5 HAg HBs HQs HMs
     generalize Vs.heap.size+1=gg at *
     generalize hA:gK D m=A at *
     go_wp2_with fail
     go_loopw [19,20] (fun vv j wr=>∃ p:Nat,p<=r/\j=.i p/\Hid (Ls V6 wr vv (A.take p))) (fun _ j _=>r-(intOf j).toNat)
     case atStart=>exact⟨0,nZl _,rfl,aA (Ls.start V6)⟩
     case round =>
      obtain⟨p,hp,rfl,HE⟩:=hrel
      rename World=>V7
      by_cases hpr:p < r
      ·have cp:=(HGg.o.below HE.o.bel).cell p (fA _ p (by simp[Cde.abc];omega))
       rw[Cde.uR m p (by omega)] at cp
       obtain⟨p0,p1⟩:=HR2.o p hpr
       have HT:=aA (aG 0 (L:=A) (k:=p) (by rw[HAl.o];exact hpr))
       rw[HAt3.o p hpr] at HT
       obtain⟨uu,hu⟩:∃ uu:Nat,lL m p=(uu:Int):=⟨(lL m p).toNat,by omega⟩
       rw[hu] at cp p1 HT
       simp only[iTn] at p1 HT
       obtain⟨_,_,he5,-,hat5⟩:=(HI7.o.later (bel HB6.o HE.o.bel)).at (by omega)
       cases he5
       have lp:=hat5 uu (by omega)
       generalize D.getD uu 0=sv at *
       have s0:(0:Int)<=p:=by omega
       have s1:(p:Int) < r:=by omega
       have t0:(0:Int)<=uu:=by omega
       have t1:(uu:Int) < n:=by omega
       have t2:decide ((k:Int)<=(uu:Int))=false:=by simp;omega
       have t3:decide (k<=uu)=false:=by simp;omega
       have t4:decide ((uu:Int) < 0)=false:=by simp
       have HJ:Hid ((A.take p).length=p):=aA (by rw[lLt,HAl.o];omega)
       clear p0 p1 hu hat5
       go_wp2_with (at_builtin;refine jU (w:=V6) (L:=A.take p) rfl _ _ rfl rfl (HE.o.alloc _) _ sv rfl (aB.new _ _ _) (by rw[HJ.o];omega) ?_;intro g2 cap2 w2 HE2;rw[HJ.o] at HE2 ⊢)
       go_roundw
       case rel=>exact⟨p+1,by omega,by go_num,aA (by rw[HT.o];exact HE2)⟩
       case measure=>simp[intOf];omega
      ·obtain rfl:p=r:=by omega
       have e:A.take p=A:=lTl (by rw[HAl.o];exact nLr _)
       have HE1:=HE.o
       rw[e] at HE1
       obtain⟨va,vc,rfl,hAi,-⟩:=Ints.of_owns HE1.a
       rw[HAl.o] at hAi ⊢
       have HQ7:=aA (HQ6.o.below HE1.bel)
       have HM7:=aA (HM6.o.below HE1.bel)
       have HB7:=aA (bel HB6.o HE1.bel)
       rcases Nat.eq_zero_or_pos p with h0|h0
       ·subst h0
        clear hAi HE1 e HE HVz
        go_wp2_with fail
        go_roundw
        case rel=>exact⟨k+1,by omega,by go_num,HB7⟩
        case measure=>simp[intOf];omega
       ·have HVa:=aA (Spn.jP m.op m.k m.s _ _ _ _ V7 (spn hAi))
        rw[HVz.o h0] at HVa
        obtain⟨e0,e1,e2,e3,e4,e5⟩:=aH HM7.o
        have hr5:decide ((0:Int) < (p:Int))=true:=by simp;omega
        have hr6:decide (0 < p)=true:=by simp;omega
        clear hAi HE1 e HE HVz
        go_wp2_with fail
        refine HVa.o.mono ?_
        rintro e V8 ⟨rfl,hb⟩
        have HB8:=aA (bel HB7.o hb)
        obtain⟨_,_,he5,-,hat5⟩:=(HI7.o.later HB8.o).at (by omega)
        cases he5
        have lx5:=hat5 k hlt
        rw[HX.o] at lx5
        have z0:(x != x)=false:=by simp
        clear hat5 hb HVa e0 e1 e2 e3 e4 e5
        go_wp2_with fail
        go_roundw
        case rel=>exact⟨k+1,by omega,by go_num,HB8⟩
        case measure=>simp[intOf];omega
   ·obtain rfl:k=n:=by omega
    have HQe:=aA (HQ7.o.below HBk.o)
    have HVe:=aA (jP v (HP7.o.later HBk.o) (HPI.o.later HQe.o.lo) H0.o)
    rw[HD.o] at HVe
    obtain⟨q,rfl⟩:∃ q:Nat,u=q:=⟨u.toNat,by omega⟩
    obtain⟨xq,hxq⟩:∃ x,D.getD q 0=x:=⟨_,rfl⟩
    rw[show vL (0,D) q=.tuple #[.i xq,.i k,.i 0] by simp[vL,rnX,rnN,HDl.o,<-hxq]] at HVe
    obtain⟨w0,w1,w2,w3⟩:=aC HQe.o.w
    clear HAt HS7
    go_wp2_with fail
    refine HVe.o.mono ?_
    rintro e V10 ⟨rfl,hb⟩
    have HQf:=aA (HQe.o.below hb)
    have HBf:=aA (bel HBk.o hb)
    obtain⟨lb,lo,rfl,-,hat⟩:=(HI7.o.later HBf.o).at (by omega)
    have lx:=hat q (by omega)
    rw[hxq] at lx
    obtain⟨c0,c1',c2,c3⟩:=aC HQf.o.c
    have t0:((k:Int)==(k:Int))=true:=by simp
    have t1:decide ((0:Int)<=(q:Int))=true:=by simp
    have t2:decide ((q:Int) < (k:Int))=true:=by simp;omega
    have t3:(xq==xq)=true:=by simp
    have t4:(0:Int)<=q:=by omega
    have t5:(q:Int) < k:=by omega
    clear hat hb HQe HVe HBk w0 w1 w2 w3
    go_wp2_with fail
    go_ret
    exact⟨rfl,HQf.o.lo⟩
 ·rw[h1] at HFi
  clear hF h1
  go_wp2_with fail
  refine HFi.o.mono ?_
  rintro e V3 ⟨rfl,hb⟩
  have HQ3:=aA (HQ2.o.below hb)
  clear hb HQ2 HP2 HFi HF k0 k1 w0 w1 w2 w3
  go_wp2_with fail
  refine(HR.o _ HQ3.o.lo).mono ?_
  rintro e V4 ⟨rfl,hb⟩
  have HB4:=aA (bel HQ3.o.lo hb)
  clear hb HQ3
  go_wp2_with fail
  go_ret
  exact⟨rfl,HB4.o⟩
end Go.Proofs.Cpl
namespace Go.Proofs.YticnbcfmbhjbgabGreatDoor
open Go.ChangeShapes Go.WideShapes Go.ChangeAt Go.RowKit Lx Pz
variable {cs:List Value} {W:World}
abbrev aEx:List (String × DataW Unit):=Rows.compileNilRow.laid
theorem gIn : Tryz.prog.globalNamed "damask/print.inputs" = some 0 := by kernel_rfl
theorem gOp : Tryz.prog.globalNamed "damask/print.operators" = some 1 := by kernel_rfl
theorem bBx : Tryz.prog.globalNamed "internal/strconv.uint64pow10" = some 3 := by kernel_rfl
theorem yIn:(Tryz.prog.globals[0]?).map (·.type)=some 264:=by kernel_rfl
theorem yOp:(Tryz.prog.globals[1]?).map (·.type)=some 296:=by kernel_rfl
theorem bCq:(Tryz.prog.globals[3]?).map (·.type)=some 355:=by kernel_rfl
theorem bB1:Tryz.prog.cellsOf 355=20:=by kernel_rfl
theorem bB0:Tryz.prog.cellsOf 295=2:=by kernel_rfl
theorem aZ9:Tryz.prog.cellsOf 9=1:=by kernel_rfl
theorem bBz:Tryz.prog.cellsOf 3=1:=by kernel_rfl
theorem bB2:Tryz.prog.cellsOf 269=1:=by kernel_rfl
theorem aX4 {i:Nat}{v:Value}(h:(cs.drop i).take 1=[v]):cs[i]?=some v:=by
 have:=congrArg (·[0]?) h
 simpa [List.getElem?_take,List.getElem?_drop] using this
theorem aRw {H:Type}{enc:TypeId × Value->H}{base fuel:Nat}{sp:Nat->Bool}{held:Bool}{L:List aN}{p:List MemPlace}
  (h:DataW.trod enc Tryz.prog W base sp held fuel 264 cs=some (.agg (L.map fun s=>.lit (.string s)),p)):∀ i,i < 6->cs[i]?=some (.string (sB (L.getD i []))):=by
 obtain⟨xs,m,-,hx,-,hn,hel⟩:=DataW.trod_array Tryz.underlying264 h
 simp only[Prod.mk.injEq,DataW.agg.injEq] at hx
 intro i hi
 have h1:=hel i hi
 rw[aZ9,Nat.mul_one] at h1
 have hlt:i < xs.length:=by omega
 rw[gEg hlt] at h1
 obtain⟨s,e1,e2,-⟩:=DataW.trod_string Tryz.underlying9 h1
 have e3:(xs.map (·.1))[i]?=some (.lit (.string s.data.toList)):=by rw[gEm,gEg hlt,e2];rfl
 rw[<-hx.1,gEm] at e3
 cases hL:L[i]? with
 | none=>rw[hL] at e3;cases e3
 | some l =>
  rw[hL] at e3
  simp only[Option.map_some,Option.some.injEq,DataW.lit.injEq,Lit.string.injEq] at e3
  rw[aX4 e1,gdE,hL,oGs,e3]
theorem aRv {H:Type}{enc:TypeId × Value->H}{base fuel:Nat}{sp:Nat->Bool}{held:Bool}{L:List (aN × Nat)}{p:List MemPlace}
  (h:DataW.trod enc Tryz.prog W base sp held fuel 296 cs=some (.agg (L.map fun r=>.agg [.lit (.string r.1),.lit (.i (r.2:Int))]),p)):∀ i,i < 29->cs[i*2]?=some (.string (sB (L.getD i ([],0)).1))/\cs[i*2+1]?=some (.i (L.getD i ([],0)).2):=by
 obtain⟨xs,m,-,hx,-,hn,hel⟩:=DataW.trod_array Tryz.underlying296 h
 simp only[Prod.mk.injEq,DataW.agg.injEq] at hx
 intro i hi
 have h1:=hel i hi
 rw[bB0] at h1
 have hlt:i < xs.length:=by omega
 rw[gEg hlt] at h1
 obtain⟨y0,y1,m2,e2,-,g0,g1⟩:=trod_struct2 Tryz.underlying295 h1
 simp only[aZ9,bBz,List.drop_zero] at g0 g1
 obtain⟨s,a1,a2,-⟩:=DataW.trod_string Tryz.underlying9 g0
 obtain⟨z,b1,b2,-⟩:=DataW.trod_int Tryz.underlying3 g1
 have c0:cs[i*2]?=some (.string s):=by
  have:=congrArg (·[0]?) a1
  simpa [List.getElem?_take,List.getElem?_drop] using this
 have c1:cs[i*2+1]?=some (.i z):=by
  have:=congrArg (·[0]?) b1
  simpa [List.getElem?_take,List.getElem?_drop] using this
 have e3:(xs.map (·.1))[i]?=some (.agg [.lit (.string s.data.toList),.lit (.i z)]):=by rw[gEm,gEg hlt,e2,a2,b2];rfl
 rw[<-hx.1,gEm] at e3
 cases hL:L[i]? with
 | none=>rw[hL] at e3;cases e3
 | some l =>
  rw[hL] at e3
  simp only[Option.map_some,Option.some.injEq,DataW.agg.injEq,List.cons.injEq,DataW.lit.injEq,Lit.string.injEq,Lit.int.injEq,true_and,and_true] at e3
  rw[c0,c1,gdE,hL,oGs,e3.1,e3.2]
  exact⟨congrArg (fun z=>some (Value.string z)) (aBu s).symm,rfl⟩
theorem aZ1 (h0:laidMetH Tryz.prog aEx W):Gl W:=by
 rw[MakeChecks.laidMetH_plain _ _ _ (by kernel_rfl)] at h0
 have h3 : laidMet Tryz.prog [("internal/strconv.uint64pow10", Rows.laid_internal_strconv_uint64pow10), ("damask/print.operators", Rows.laid_damask_print_operators), ("damask/print.inputs", Rows.laid_damask_print_inputs)] W := h0.tail.tail
 have h4:=h3.tail
 have h5:=h4.tail
 have hT : Lib.TabIs Tryz.prog W "internal/strconv.uint64pow10" .u64 Lib.pow10Tab :=
  Lib.tabIs_of_head bBx bCq Tryz.underlying355 Tryz.underlying269 bB2 bB1 (show laidMet Tryz.prog (("internal/strconv.uint64pow10", Lib.tabData .u64 Lib.pow10Tab) :: _) W from h3)
 obtain⟨ps,⟨g,t,cs,fuel,p,q,hg,ht,hv,hd,_,_⟩,_⟩:=h4
 obtain rfl:=Option.some.inj (gOp.symm.trans hg)
 obtain rfl:=Option.some.inj (yOp.symm.trans ht)
 obtain⟨ps2,⟨g2,t2,cs2,fuel2,p2,q2,hg2,ht2,hv2,hd2,_,_⟩,_⟩:=h5
 obtain rfl:=Option.some.inj (gIn.symm.trans hg2)
 obtain rfl:=Option.some.inj (yIn.symm.trans ht2)
 rw[show Rows.laid_damask_print_operators=(.agg (qE.map fun r=>.agg [.lit (.string r.1),.lit (.i (r.2:Int))]):DataW Unit) from by kernel_rfl] at hd
 rw[show Rows.laid_damask_print_inputs=(.agg (yZ.map fun s=>.lit (.string s)):DataW Unit) from by kernel_rfl] at hd2
 have r1:=aRv hd
 have r2:=aRw hd2
 refine⟨fun k hk=>?_,fun k hk=>⟨?_,?_⟩,hT⟩
 ·have:=World.var?_cell hg2 hv2 k
  rw[this,<-Array.getElem?_toList]
  exact r2 k hk
 ·have:=World.var?_cell hg hv (k*2)
  rw[this,<-Array.getElem?_toList]
  exact(r1 k hk).1
 ·have:=World.var?_cell hg hv (k*2+1)
  rw[this,<-Array.getElem?_toList]
  exact(r1 k hk).2
end Go.Proofs.YticnbcfmbhjbgabGreatDoor
namespace Go.Proofs.YticnbcfmbhjbgabGreatDoor
open Go.ChangeShapes Go.WideShapes Go.ChangeAt Go.RowKit
theorem aNb (os:Os)(args:Array Value):laidMetH Tryz.prog aEx ((World.doorLaid Tryz.prog 400 os).forCall (fun _ _=>0) ⟨#[],args,[]⟩).memory :=
 laidMetH_of_parts3 (fuel:=8) (laidMet_of_run' 8 (by kernel_rfl) (by kernel_rfl)) (by kernel_rfl) (by kernel_rfl)
theorem vS (os:Os)(started:os.Started)(H:Type)(enc:TypeId × Value->H) :
  ReturnsInHanded {} Tryz.checked os 6 .any (fun w args=>(Rows.wholeSafeSpec.pre enc Tryz.prog Tryz.f6 [] false w args/\laidMetH Tryz.prog aEx w)/\sizedMet enc Tryz.prog Tryz.f6 (OpenSpec.ofChange Rows.wholeSafeSpec) false w args)
   (Rows.wholeSafeSpec.post enc Tryz.prog Tryz.f6 false true false false):=by
 refine returnsInHanded_of_change_and (C:=Tryz.checked) (X:=fun w _=>laidMetH Tryz.prog aEx w) (fun _ _ _ hh h=>h.of_heap hh) bCg started (by kernel_rfl) Tryz.func6
  (ChangeSpec.witness_shaped (enc:=enc) (C:=Tryz.checked) (os:=os) (X:=fun w _=>laidMetH Tryz.prog aEx w) false (World.doorLaid Tryz.prog 400 os) #[.string ⟨#[]⟩,.agg #[.i 0,.i 0],.agg #[.i 0,.i 0,.i 0,.slice none 0 0]] 8 rfl (World.shaped_of_RefB (by kernel_rfl) (by kernel_rfl)) (by kernel_rfl) (by kernel_rfl) (by kernel_rfl) (aNb os _)) ?_
 intro W base args ds gs before hval0 hW hcnd hsz0 hL _
 have hval:∀(j:Nat) t v,Tryz.f6.params[j]?=some t->args[j]?=some v->Value.okWide Tryz.prog W .any base t v:=hval0
 have hW':=hW
 obtain⟨p,q,hA0,hV,rfl,hfz,hnd⟩:=hW
 have hA:DataW.TrodAll enc Tryz.prog W 0 (fun _=>true) true Tryz.f6.params.toList args.toList ds p:=hA0
 rw[Tryz.params6] at hA hval
 obtain⟨v0,vs0,d0,ds0,p0,q0,hargs,rfl,rfl,h0,r0⟩:=trodAll_cons hA
 obtain⟨v1,vs1,d1,ds1,p1,q1,hargs1,rfl,rfl,h1,r1⟩:=trodAll_cons r0
 obtain⟨v2,vs2,d2,ds2,p2,q2,hargs2,rfl,rfl,h2,r2⟩:=trodAll_cons r1
 obtain⟨rfl,rfl,rfl⟩:=trodAll_nil r2
 obtain rfl:args=#[v0,v1,v2]:=by cases args;simp_all
 obtain⟨rfl,rfl⟩:=trodVars_none hV
 have k0:=h0
 have lt0:∀ x ∈ p0,x.block < W.heap.size:=by obtain⟨m,hm⟩:=k0;exact DataW.trod_lt m _ _ _ hm
 obtain⟨s0,rfl,hd0,hp0,hs0⟩:=Go.ChangeMaps.open_string Tryz.underlying9 (hval 0 9 v0 rfl rfl) h0
 have k1:=h1
 have lt1:∀ x ∈ p1,x.block < W.heap.size:=by obtain⟨m,hm⟩:=k1;exact DataW.trod_lt m _ _ _ hm
 obtain⟨f1,e1,rfl⟩:=aK7 (hval 1 35 v1 rfl rfl) h1
 have k2:=h2
 have lt2:∀ x ∈ p2,x.block < W.heap.size:=by obtain⟨m,hm⟩:=k2;exact DataW.trod_lt m _ _ _ hm
 obtain⟨a2,b2,c2,sa2,sn2,sc2,zs2,rfl,hZ2⟩:=aFf (hval 2 24 v2 rfl rfl) h2
 clear hA0 hval0
 refine(Cpl.aLn f1 e1 s0 ⟨a2,b2,c2,zs2⟩ hZ2 (aZ1 hL)).mono fun e W' ⟨he,bel⟩=>?_
 subst he
 exact⟨_,rfl,_,_,_,[],_,[],hW',trodAll_mk1 (shut_bool Tryz.underlying4 _),trodAll_cons_mk (Below.trod zG (by kernel_rfl) (of_decide_eq_true (by kernel_rfl)) k0 bel lt0) (trodAll_cons_mk (Below.trod zG (by kernel_rfl) (of_decide_eq_true (by kernel_rfl)) k1 bel lt1) (trodAll_cons_mk (Below.trod zG (by kernel_rfl) (of_decide_eq_true (by kernel_rfl)) k2 bel lt2) (trodAll_mk0))),rfl,bel.frame _,fun h=>by cases h⟩
end Go.Proofs.YticnbcfmbhjbgabGreatDoor
