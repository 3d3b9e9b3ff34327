import Derived.Test.YticnbcfmbhjbgaaGreatDoorXH
import Derived.Test.YticnbcfmbhjbgaaGreatDoorRows
import Derived.MakeChecks
import Derived.Lib.LaidTab
import Derived.OpenShut
import Derived.Stop.LaidErr
import Derived.LaidMore
import Derived.ProofKit
import Derived.Test.YticnbcfmbhjbgaaGreatDoorCards
import Derived.Test.YticnbcfmbhjbgaaGreatDoorTie
import Derived.SevenTiedAt
import Derived.Test.YticnbcfmbhjbgaaGreatDoorX20
import Derived.Test.YticnbcfmbhjbgaaGreatDoorX43
import Derived.Test.YticnbcfmbhjbgaaGreatDoorX47
import Derived.Test.YticnbcfmbhjbgaaGreatDoorX29
import Derived.Test.YticnbcfmbhjbgaaGreatDoorX37
import Derived.Test.YticnbcfmbhjbgaaGreatDoorX31
import Derived.Test.YticnbcfmbhjbgaaGreatDoorX46
import Derived.Test.YticnbcfmbhjbgaaGreatDoorX00
set_option maxRecDepth 100000
set_option maxHeartbeats 32000000
set_option linter.unusedVariables false
namespace Go.Proofs.Cpl
open Go.RowKit Go.IntWalk Lx Pz
open YticnbcfmbhjbgaaGreatDoor (Wd pE Fits eH gJ tH aB bel aD aA jS tT mxR sJ nK nJ iA rU Tx Iz Nz bP rootOf Dec mX gX whole aPy Gl CkP sS uE dN aE4 aA9 rH aAo mD kN mH bs dD gM sB)
open Cde (In i0 ia kd cd Ins aC aO dA kI)
open Vfy (bB)
open Pss (psF iC pX rnE rnI rnU rnK okP)
def TrT (s:ByteArray)(NM:List aL)(es:List E)(ex:E):Prop:=s.size<=1024/\∃ A,ak (bs s)=some A/\GP [] [] A (NM,es,ex)
theorem TrT.parse {s : ByteArray} {NM : List aL} {es : List E} {ex : E} (h : TrT s NM es ex) (w : World) : Calls Tryz.prog 17 #[.string s] w fun e W' => ∃ na nc ba bc da dc, Dec NM (gW es 0) (bP es ex) (rootOf es ex) es ex ∧
      e = .returned (.tuple #[.agg (gJ (.slice na es.length nc) (.slice ba es.length bc) (.slice da (bV es + ex.size) dc) (.i (rootOf es ex))), .i 0]) ∧ Tx W' na es.length nc NM ∧ Iz W' ba es.length bc (gW es 0) ∧
      Nz W' da (bV es + ex.size) dc (bP es ex) ∧ Below w.heap.size w W' := by
  obtain ⟨hl, A, ha, hg⟩ := h
  exact aA9 ha hl hg w
theorem yN {s:ByteArray}(h:∀ NM es ex,¬TrT s NM es ex)(w:World):Calls Tryz.prog 17 #[.string s] w fun e W'=>e=.returned (.tuple #[.agg tH,.i 10])/\Below w.heap.size w W':=by
 refine(rH s w).mono ?_
 rintro e W1 (⟨h1,h2,-⟩|⟨T,NM,es,ex,na,nc,ba,bc,da,dc,hT,hA,h3,h4,rfl,h6,h7,h8,h9⟩)
 ·exact⟨h1,h2⟩
 ·refine absurd ⟨?_,T.map ab,(aX3 hT).1,(hA _).1 rfl⟩ (h NM es ex)
  unfold zR at hT
  split at hT
  ·cases hT
  ·rw[dD] at *
   omega
theorem aPx (s:ByteArray):(∀ NM es ex,¬TrT s NM es ex)\/∃ NM es ex,TrT s NM es ex:=by
 by_cases h:∃ NM es ex,TrT s NM es ex
 ·exact .inr h
 ·exact .inl fun NM es ex hh=>h ⟨NM,es,ex,hh⟩
theorem aLg (f d out:Int){a:Option Addr}{n cap:Nat}{L:List In}{W:World}(hL:Ins W a n cap L)(h:bB f d L out=0){I:List In}{u:Int}(hI:psF f d iC (L,out)=(I,u)) :
  Calls Tryz.prog 32 #[.agg (cd f d a n cap out)] W fun e W'=>∃ a' c',e=.returned (.tuple #[.agg (cd f d a' I.length c' u),.i 0])/\W'.ownsRow W.heap.size 132 6 (.slice a' I.length c') I.length (dA I)/\Below W.heap.size W W':=by
 refine(Pss.aLf f d out hL).mono ?_
 rintro e W' ⟨a',c',rfl,hO,hb⟩
 have h1:rnE f d L out iC=0:=by rw[rnE,if_pos (by decide)];exact h
 have e1:rnI f d L out iC=I:=by rw[rnI,if_pos h1,hI]
 rw[e1] at hO
 exact⟨a',c',by rw[e1];simp[rnK,rnU,h1,hI],hO,hb⟩
def txP (NM:List aL)(es:List E)(ex:E):ByteArray:=if 1024 < (whole NM es ex).length then⟨#[]⟩ else sB (whole NM es ex)
theorem aKm {W:World}{na ba da:Option Addr}{nl nc bl bc dl dc:Nat}{root:Int}{NM:List aL}{BS:List Int}{NS:List Nd}(hX:Tx W na nl nc NM)(hB:Iz W ba bl bc BS)(hN:Nz W da dl dc NS)(hG:Gl W){es:List E}{ex:E}(hD:Dec NM BS NS root es ex) :
  Calls Tryz.prog 33 #[.agg (gJ (.slice na nl nc) (.slice ba bl bc) (.slice da dl dc) (.i root))] W fun e W'=>(∃ x,e=.returned (.tuple #[.string (txP NM es ex),.i x]))/\Below W.heap.size W W':=by
 refine(aE4 hX hB hN hG hD).mono ?_
 rintro e W' ⟨rfl,hb⟩
 refine⟨?_,hb⟩
 unfold txP
 split
 ·exact⟨_,rfl⟩
 ·exact⟨_,rfl⟩
end Go.Proofs.Cpl
namespace Go.Proofs.Cpl
open Go.RowKit Go.IntWalk Lx Pz
open YticnbcfmbhjbgaaGreatDoor (Wd pE Fits eH gJ tH aB bel aD aA jS tT mxR sJ nK nJ iA rU Tx Iz Nz bP rootOf Dec mX gX whole aPy Gl CkP sS uE dN mD kN mH bs sB)
open Cde (In i0 ia kd cd Ins aC aO dA kI)
open Knd (May)
open Fld (bD)
open Vfy (bB)
open Pss (psF iC aGz)
structure Cx (W V:World)(bt:Nat)(kv tv:Array Value):Prop where
 k:aB V W.heap.size 23 kv
 t:aB V bt 50 tv
 lo:Below W.heap.size W V
theorem Cx.below {W V V':World}{bt:Nat}{kv tv:Array Value}(h:Cx W V bt kv tv)(hb:Below V.heap.size V V'):Cx W V' bt kv tv:=⟨h.k.below hb,h.t.below hb,bel h.lo hb⟩
theorem aF7 (f d:Int){s:ByteArray}(h:∀ NM es ex,¬TrT s NM es ex)(W:World) :
  Calls Tryz.prog 9 #[.string s,.agg (eH f d)] W fun e W'=>e=.returned (.tuple #[.pointer none,.i (if May f d then 10 else 1)])/\Below W.heap.size W W':=by
 have HK:=aA fun V=>kI f d V
 have HP:=aA fun V=>yN h V
 have HK0:=aA (aB.new W 23 (eH f d))
 have HB0:=aA (aD W (.cells (eH f d) 23))
 clear h
 obtain⟨k0,k1⟩:=aO HK0.o
 by_cases hm:May f d
 ·rw[if_pos hm] at HK ⊢
  clear hm
  go_enter Tryz.func9,Tryz.ntmps9
  go_wp2_with fail
  refine(HK.o _).mono ?_
  rintro e V1 ⟨rfl,hb⟩
  have HB1:=aA (bel HB0.o hb)
  clear hb HK k0 k1
  go_wp2_with fail
  refine(HP.o _).mono ?_
  rintro e V2 ⟨rfl,hb⟩
  have HB2:=aA (bel (bel HB1.o hb) (aD V2 (.cells tH 50)))
  clear hb HP
  go_wp2_with fail
  exact bPr (v:=.tuple #[.pointer none,.i 10]) (by simp[results,Tryz.results9,go_sem]) rfl ⟨rfl,HB2.o⟩
 ·rw[if_neg hm] at HK ⊢
  clear hm
  go_enter Tryz.func9,Tryz.ntmps9
  go_wp2_with fail
  refine(HK.o _).mono ?_
  rintro e V1 ⟨rfl,hb⟩
  have HB1:=aA (bel HB0.o hb)
  clear hb HK k0 k1
  go_wp2_with fail
  exact bPr (v:=.tuple #[.pointer none,.i 1]) (by simp[results,Tryz.results9,go_sem]) rfl ⟨rfl,HB1.o⟩
def CpA (f d:Int)(NM:List aL)(es:List E)(ex:E)(W:World)(e:Ending)(W':World):Prop :=
 Below W.heap.size W W'/\(
  (jS f d NM (gW es 0) (bP es ex) (rootOf es ex)≠0/\e=.returned (.tuple #[.pointer none,.i (jS f d NM (gW es 0) (bP es ex) (rootOf es ex))])) \/
  (jS f d NM (gW es 0) (bP es ex) (rootOf es ex)=0/\∃ g J u,psF f d iC ((rU f d (gW es 0) (bP es ex)).2,(rU f d (gW es 0) (bP es ex)).1.getD (rootOf es ex).toNat 0)=(J,u)/\bB f d J u=0/\e=.returned (.tuple #[.pointer (some ⟨g,0,none⟩),.i 0])/\Pg W' g f d J u (txP NM es ex) (tT (bP es ex))))
theorem xA (f d:Int){s:ByteArray}{NM:List aL}{es:List E}{ex:E}(h:TrT s NM es ex){W:World}(hG:Gl W) :
  Calls Tryz.prog 9 #[.string s,.agg (eH f d)] W (CpA f d NM es ex W):=by
 have HK:=aA fun V=>kI f d V
 have HP:=aA fun V=>h.parse V
 have HK0:=aA (aB.new W 23 (eH f d))
 have HB0:=aA (aD W (.cells (eH f d) 23))
 have HG:=aA hG
 clear h hG
 obtain⟨k0,k1,-,-⟩:=YticnbcfmbhjbgaaGreatDoor.aO HK0.o
 by_cases hm:May f d
 ·rw[if_pos hm] at HK
  go_enter Tryz.func9,Tryz.ntmps9
  go_wp2_with fail
  refine(HK.o _).mono ?_
  rintro e V1 ⟨rfl,hb⟩
  have HB1:=aA (bel HB0.o hb)
  have HK1:=aA (HK0.o.below hb)
  clear hb HK k0 k1 HK0 HB0
  go_wp2_with fail
  refine(HP.o _).mono ?_
  rintro e V2 ⟨na,nc,ba,bc,da,dc,hD,rfl,hX,hI,hN,hb⟩
  have hb2:=aD V2 (.cells (gJ (.slice na es.length nc) (.slice ba es.length bc) (.slice da (bV es+ex.size) dc) (.i (rootOf es ex))) 50)
  have HD:=aA hD
  have HX:=aA (hX.later hb2)
  have HI:=aA (hI.later hb2)
  have HN:=aA (hN.later hb2)
  have HC2:Hid (Cx W (V2.alloc (.cells (gJ (.slice na es.length nc) (.slice ba es.length bc) (.slice da (bV es+ex.size) dc) (.i (rootOf es ex))) 50)) V2.heap.size (eH f d) (gJ (.slice na es.length nc) (.slice ba es.length bc) (.slice da (bV es+ex.size) dc) (.i (rootOf es ex)))) :=
   aA ⟨(HK1.o.below hb).below hb2,aB.new _ _ _,bel (bel HB1.o hb) hb2⟩
  obtain⟨k0,k1,-,-⟩:=YticnbcfmbhjbgaaGreatDoor.aO (HK1.o.below hb)
  have z0:=(HK1.o.below hb).lt
  have hs:=mD hD.ok
  have HCk:=aA (dN f d (root:=rootOf es ex) HX.o HI.o HN.o hs)
  have HS:=aA hs
  clear hD hX hI hN hb hb2 HK1 HB1 HP hs
  generalize hnl0:es.length=nl at *
  generalize hdl:bV es+ex.size=dl at *
  generalize hrt:rootOf es ex=root at *
  generalize hbs:gW es 0=BS at *
  generalize hns:bP es ex=NS at *
  go_wp2_with fail
  generalize V2.heap.size=bt at *
  refine HCk.o.mono ?_
  rintro e V3 (⟨hc,rfl,hb⟩|⟨hc,g,rfl,-,hS,hb⟩)
  ·obtain⟨ce,hce⟩:∃ ce,jS f d NM BS NS root=ce:=⟨_,rfl⟩
   have hr:(ce != 0)=true:=by rw[<-hce];simpa using hc
   have HE:Hid (∀ e W',Below W.heap.size W W'->e=.returned (.tuple #[.pointer none,.i ce])->CpA f d NM es ex W e W'):=aA fun e W' hb he=>⟨hb,.inl ⟨by rw[hbs,hns,hrt];exact hc,by rw[hbs,hns,hrt,hce];exact he⟩⟩
   rw[hce]
   have HB3:=aA (bel (bel HC2.o.lo hb) (aD V3 (.cells iA 55)))
   clear hc hb hce HC2 HCk k0 k1 z0 hbs hns hrt
   go_wp2_with fail
   exact bPr (v:=.tuple #[.pointer none,.i ce]) (by simp[results,Tryz.results9,go_sem]) rfl (HE.o _ _ HB3.o rfl)
  ·have HC0:=aA hc
   have hb2:=aD V3 (.cells #[.slice (some ⟨g,0,none⟩) NS.length NS.length,.i (tT NS),.i (mxR (sJ BS NS []))] 55)
   generalize mxR (sJ BS NS [])=mx at *
   generalize hco:tT NS=co at *
   have HC3:=aA ((HC2.o.below hb).below hb2)
   have HX3:=aA ((HX.o.later hb).later hb2)
   have HI3:=aA ((HI.o.later hb).later hb2)
   have HN3:=aA ((HN.o.later hb).later hb2)
   have HR3:=aA (aB.new V3 55 #[.slice (some ⟨g,0,none⟩) NS.length NS.length,.i co,.i mx])
   have HLw:=aA (uE f d (root:=root) HX3.o HI3.o HN3.o HS.o)
   obtain⟨k0,k1,-,-⟩:=YticnbcfmbhjbgaaGreatDoor.aO (HC2.o.below hb).k
   obtain⟨t0,t1,t2,t3⟩:=aC (HC2.o.below hb).t
   have z1:=(HC2.o.below hb).k.lt
   have z2:=(HC2.o.below hb).t.lt
   clear hb hb2 hS HC2 HX HI HN HCk hm
   go_wp2_with fail
   generalize V3.heap.size=br at *
   refine HLw.o.mono ?_
   rintro e V4 ⟨F,D,I,o,ca,cc,rfl,hIn,-,hI1,hb⟩
   obtain⟨rfl,rfl,hIl,hol⟩:=hI1 hc
   obtain⟨t1',-⟩:=sS hc hIl hol
   obtain⟨⟨J,u⟩,hJ⟩:∃ x,psF F D iC (I,o)=x:=⟨_,rfl⟩
   have hk:=aGz (f:=F) (d:=D) iC (I,o) t1'
   rw[hJ] at hk
   rw[hc]
   have hb2:=aD V4 (.cells (cd F D ca I.length cc o) 33)
   have HZ:=aA (aLg F D o (hIn.later hb2) t1' hJ)
   have HJ:=aA hJ
   have HK:=aA hk
   have HIl:=aA hIl
   have HOl:=aA hol
   have HC4:=aA (HC3.o.below hb)
   have HX4:=aA (HX3.o.later hb)
   have HI4:=aA (HI3.o.later hb)
   have HN4:=aA (HN3.o.later hb)
   have HR4:=aA (HR3.o.below hb)
   have HD4:=aA (aB.new V4 33 (cd F D ca I.length cc o))
   have HB4:=aA hb2
   clear hIn hI1 hb hb2 hIl hol t1' hJ hk hc HC3 HX3 HI3 HN3 HR3 HLw k0 k1 t0 t1 t2 t3 z1 z2
   go_wp2_with fail
   refine HZ.o.mono ?_
   rintro e V5 ⟨a',c',rfl,hO,hb⟩
   have hd5:=HD4.o.below hb
   obtain⟨c0,c1,c2,c3⟩:=aC hd5
   obtain⟨f0,f1,f2,f3⟩:=bD hd5
   have hlt:=hd5.lt
   have hO6:=mH hO hd5 (by decide) (.i F) (.i D) (.slice a' J.length c') (.i u)
   obtain⟨hp,hpb⟩:=kN hd5 (w:=V4) (bel HB4.o hb) (nLr _) (.i F) (.i D) (.slice a' J.length c') (.i u)
   obtain⟨V6,hV6⟩:∃ V6,(((V5.setCell ⟨V4.heap.size,0,none⟩ (.i F)).setCell ⟨V4.heap.size,1,none⟩ (.i D)).setCell ⟨V4.heap.size,2,none⟩ (.slice a' J.length c')).setCell ⟨V4.heap.size,3,none⟩ (.i u)=V6:=⟨_,rfl⟩
   rw[hV6] at hO6 hp hpb
   obtain⟨a9,c9,e2,hJn,-⟩:=Ins.of_owns hO6
   cases e2
   have HJn:=aA hJn
   have HC6:=aA (HC4.o.below hpb)
   have HR6:=aA (HR4.o.below hpb)
   have HD6:=aA hp
   have HPr:=aA (aKm (HX4.o.later hpb) (HI4.o.later hpb) (HN4.o.later hpb) (HG.o.later HC6.o.lo) HD.o)
   obtain⟨t0,t1,t2,t3⟩:=aC HC6.o.t
   clear hO hb hd5 hO6 hp hpb hJn HZ HC4 HX4 HI4 HN4 HR4 HD4 HB4 HG
   go_wp2_with fail
   generalize V4.heap.size=bk at *
   refine HPr.o.mono ?_
   rintro e V7 ⟨⟨px,rfl⟩,hb⟩
   have HC7:=aA (HC6.o.below hb)
   obtain⟨c0,c1,c2,c3⟩:=aC (HD6.o.below hb)
   obtain⟨r0,r1,r2,-,-,-⟩:=YticnbcfmbhjbgaaGreatDoor.fQ (HR6.o.below hb)
   have HRd:=aA (aKp F D u (txP NM es ex) co (HJn.o.later hb))
   clear hb HC6 HR6 HD6 HPr HJn t0 t1 t2 t3
   go_wp2_with fail
   refine HRd.o.mono ?_
   rintro e V8 ⟨hb,⟨hn,-⟩|⟨-,g8,rfl,hP⟩⟩
   ·exact absurd HK.o hn
   go_wp2_with fail
   exact bPr (v:=.tuple #[.pointer (some ⟨g8,0,none⟩),.i 0]) (by simp[results,Tryz.results9,go_sem]) rfl ⟨bel HC7.o.lo hb,.inr ⟨by rw[hbs,hns,hrt];exact HC0.o,g8,J,u,by rw[hbs,hns,hrt,<-HIl.o,<-HOl.o];exact HJ.o,HK.o,rfl,by rw[hns,hco];exact hP⟩⟩
 ·rw[if_neg hm] at HK
  have hce:jS f d NM (gW es 0) (bP es ex) (rootOf es ex)=1:=by unfold YticnbcfmbhjbgaaGreatDoor.jS;rw[if_pos hm]
  have HE:Hid (∀ e W',Below W.heap.size W W'->e=.returned (.tuple #[.pointer none,.i 1])->CpA f d NM es ex W e W'):=aA fun e W' hb he=>⟨hb,.inl ⟨by rw[hce];decide,by rw[hce];exact he⟩⟩
  clear hm hce
  go_enter Tryz.func9,Tryz.ntmps9
  go_wp2_with fail
  refine(HK.o _).mono ?_
  rintro e V1 ⟨rfl,hb⟩
  have HB1:=aA (bel HB0.o hb)
  clear hb HK k0 k1
  go_wp2_with fail
  exact bPr (v:=.tuple #[.pointer none,.i 1]) (by simp[results,Tryz.results9,go_sem]) rfl (HE.o _ _ HB1.o rfl)
end Go.Proofs.Cpl
namespace Go.Proofs.Cpl
open Go.RowKit Go.IntWalk Lx Pz
open Go.Lib (decDigits itoa)
open YticnbcfmbhjbgaaGreatDoor (aB bel aD aA jS tT rU bP rootOf whole Gl bs dD gM sB aLn fI Fo aMr vZ aLp aUf aUg aDr aDs aFz)
open Cde (In i0 kd cd Ins dA)
open Vfy (bB)
open Pss (psF iC)
def ayT:aL:=[40,112,40,45,49,44,48,41,43,112,40,45,49,44,48,41,41,47,50]
abbrev ayP:List Tk:=[.word wP,.lp,.op 5 9,.num 1,.comma,.num 0,.rp]
def ayK:List Tk:=(.lp::((ayP++.op 5 8::ayP)++[.rp]))++.op 6 11::[.num 2]
def ayE:E:=.bin 11 (.bin 8 (.leaf (lf 3 0 0 2 (-1) 0)) (.leaf (lf 3 0 0 2 (-1) 0))) (.leaf (lf 1 2 0 0 0 0))
theorem aX4:ak ayT=some ayK:=by
 have d1:∀ d:Nat,d < 10->∀ r,Fo r->ak (UInt8.ofNat (48+d)::r)=(ak r).map ([.num d]++·):=fun d hd r hr=>by
  have:=aLn (u:=d) (by omega) r hr
  rwa[fI hd] at this
 have n1c:∀ r,ak (49::44::r)=(ak (44::r)).map ([.num 1]++·):=fun r=>d1 1 (by decide) _ (vZ (by decide) r)
 have n0r:∀ r,ak (48::41::r)=(ak (41::r)).map ([.num 0]++·):=fun r=>d1 0 (by decide) _ (vZ (by decide) r)
 have n2:ak [50]=(ak []).map ([.num 2]++·):=d1 2 (by decide) [] aMr
 have pl:∀ r,ak (112::40::r)=(ak (40::r)).map ([.word wP]++·):=fun r=>aLp (x:=wP) (by decide) (40::r) (vZ (by decide) r)
 have lp:∀ r,ak (40::r)=(ak r).map ([.lp]++·):=fun r=>aUf r trivial
 have rp:∀ r,ak (41::r)=(ak r).map ([.rp]++·):=fun r=>aUg r trivial
 have cm:∀ r,ak (44::r)=(ak r).map ([.comma]++·):=fun r=>aDr r trivial
 have mi:∀ r,ak (45::r)=(ak r).map ([.op 5 9]++·):=fun r=>aDs r trivial
 have pp:∀ r,ak (43::r)=(ak r).map ([.op 5 8]++·):=fun r=>aFz 43 _ (by decide) (by decide) (by decide) (by decide) (by decide) (by decide) r trivial
 have dv:∀ r,ak (47::r)=(ak r).map ([.op 6 11]++·):=fun r=>aFz 47 _ (by decide) (by decide) (by decide) (by decide) (by decide) (by decide) r trivial
 unfold ayT
 simp only[pl,n1c,n0r,n2,lp,rp,cm,mi,pp,dv,aUy,Option.map_some]
 rfl
theorem aX7:GP [] [] ayK ([],[],ayE):=by
 refine GP.last ?_
 have a8:G [] 8 ayP (.leaf (lf 3 0 0 2 (-1) 0)):=G.place (s:=wP) (.inl rfl) rfl
 have h2:G [] 8 [.num 2] (.leaf (lf 1 2 0 0 0 0)):=G.num 2
 have s6:G [] 6 (ayP++.op 5 8::ayP) _:=G.bin (k:=5) (o:=8) (by omega) (YticnbcfmbhjbgaaGreatDoor.G.ups a8 (by decide) (by decide)) (YticnbcfmbhjbgaaGreatDoor.G.ups a8 (by decide) (by decide))
 have p8:G [] 8 (.lp::((ayP++.op 5 8::ayP)++[.rp])) _:=G.par (YticnbcfmbhjbgaaGreatDoor.G.ups s6 (by decide) (by decide))
 exact YticnbcfmbhjbgaaGreatDoor.G.ups (G.bin (k:=6) (o:=11) (by omega) (YticnbcfmbhjbgaaGreatDoor.G.ups p8 (by decide) (by decide)) (YticnbcfmbhjbgaaGreatDoor.G.ups h2 (by decide) (by decide))) (by omega) (by omega)
theorem aX8:TrT (sB ayT) [] [] ayE:=⟨by decide,ayK,by rw[gM];exact aX4,aX7⟩
theorem aX5:jS 0 8 [] (gW [] 0) (bP [] ayE) (rootOf [] ayE)=0:=by decide +kernel
theorem aX6:tT (bP [] ayE)=8:=by decide +kernel
theorem aQr:(psF 0 8 iC ((rU 0 8 (gW [] 0) (bP [] ayE)).2,(rU 0 8 (gW [] 0) (bP [] ayE)).1.getD (rootOf [] ayE).toNat 0)).1.length=3:=by decide +kernel
theorem aLw:whole [] [] ayE=ayT:=by
 have d2:itoa 2=[50]:=by unfold itoa;rw[if_neg (by decide),show (2:Int).toNat=2 from rfl,fI (by decide)];rfl
 have d0:itoa 0=[48]:=by unfold itoa;rw[if_neg (by decide),show (0:Int).toNat=0 from rfl,fI (by decide)];rfl
 have dm:itoa (-1)=[45,49]:=by unfold itoa;rw[if_pos (by decide),show (-1:Int).natAbs=1 from rfl,fI (by decide)];rfl
 unfold YticnbcfmbhjbgaaGreatDoor.whole ayE ayT
 simp[YticnbcfmbhjbgaaGreatDoor.ltT,cO,vG,uM,brk,rkE,lfk,ork,nW,nO,d2,d0,dm]
theorem aX9:txP [] [] ayE=sB ayT:=by
 unfold txP
 rw[aLw,if_neg (by decide)]
theorem aJw (f d o:Int)(a:Option Addr)(n c:Nat)(w:World):(Instr.field 33 (.agg (cd f d a n c o)) 1).run Tryz.prog w=.ok (.slice a n c) w:=by
 simp[Instr.field,asAgg,go_sem]
theorem aF5 {W:World}(hG:Gl W):Calls Tryz.prog 11 #[] W fun e w'=>e=.returned (.bool true)/\Below W.heap.size W w':=by
 have HC:=aA (fun(V:World) (hb:Below W.heap.size W V)=>xA 0 8 aX8 (hG.later hb))
 go_enter Tryz.func11,Tryz.ntmps11
 go_wp2_with fail
 refine(HC.o _ (Below.refl _ _)).mono ?_
 rintro e V1 ⟨hb,⟨hc,-⟩|⟨-,g,J,u,hJ,hv,rfl,hP⟩⟩
 ·exact absurd aX5 hc
 have hl:=aQr
 rw[hJ] at hl
 rw[aX9,aX6] at hP
 have HP:=aA hP
 have HCo:=aA (aMb hP hv)
 have HB1:=aA hb
 clear hb hJ hv hP HC
 go_wp2_with fail
 refine(lV HP.o).mono ?_
 rintro e V2 ⟨rfl,rfl⟩
 go_wp2_with fail
 refine HCo.o.mono ?_
 rintro e V3 ⟨a',c',rfl,-,hb⟩
 have HP3:=aA (HP.o.later hb)
 have HB3:=aA (bel HB1.o hb)
 rw[hl]
 have hf:=aJw 0 8 u a' 3 c'
 clear hb HP HCo
 go_wp2_with fail
 refine(aPp HP3.o).mono ?_
 rintro e V4 ⟨rfl,rfl⟩
 go_wp2_with fail
 go_ret
 exact⟨rfl,HB3.o⟩
end Go.Proofs.Cpl
namespace Go.Proofs.Cpl
open Go.RowKit Go.IntWalk Lx Pz
open YticnbcfmbhjbgaaGreatDoor (eH gJ tH aB bel aD aA jS tT mxR sJ nK nJ iA bP rootOf Dec mX gX Gl CkP dN mD Tx Iz Nz aG8)
open Cde (In aC)
open Knd (May)
theorem aVa (f d:Int):jS f d [] [] [] 0=if May f d then 3 else 1:=by
 unfold YticnbcfmbhjbgaaGreatDoor.jS
 by_cases h:May f d
 ·rw[if_neg (by simpa using h),if_pos (by decide),if_pos h]
 ·rw[if_pos h,if_neg h]
theorem aQw {f d:Int}{NM:List aL}{BS:List Int}{NS:List Nd}{root:Int}(hc:mX NM BS NS root=true){z:Int}(h:jS f d NM BS NS root=z)(h0:z≠0):z=1\/z=11\/z=12\/z=13\/z=14:=by
 have hcd:=aG8 f d BS NS []
 unfold YticnbcfmbhjbgaaGreatDoor.jS at h
 by_cases hm:May f d
 ·rw[if_neg (by simpa using hm),if_neg (by rw[hc];simp)] at h
  split at h
  ·omega
  ·split at h
   ·rw[h] at hcd
    rcases hcd with e|e|e|e <;> omega
   ·split at h <;> omega
 ·rw[if_pos hm] at h;omega
theorem aGq (f d:Int)(s:ByteArray){W:World}(hG:Gl W) :
  Calls Tryz.prog 5 #[.string s,.agg (eH f d)] W fun e w'=>e=.returned (.bool true)/\Below W.heap.size W w':=by
 have HK0:=aA (aB.new W 23 (eH f d))
 have HB0:=aA (aD W (.cells (eH f d) 23))
 have HG:=aA hG
 have HA:=aA fun(V:World) (hb:Below W.heap.size W V)=>aF5 (hG.later hb)
 clear hG
 obtain⟨k0,k1,-,-⟩:=YticnbcfmbhjbgaaGreatDoor.aO HK0.o
 rcases aPx s with h|⟨NM,es,ex,h⟩
 ·have HC:=aA fun V=>aF7 f d h V
  have HP:=aA fun V=>yN h V
  have HCk:=aA fun V=>dN f d (root:=0) (W:=V) (NM:=[]) (BS:=[]) (NS:=[]) (na:=none) (ba:=none) (da:=none) (nl:=0) (nc:=0) (bl:=0) (bc:=0) (dl:=0) (dc:=0) ⟨rfl,nLr _,nZl _,.inl rfl⟩ ⟨rfl,nLr _,nZl _,.inl rfl⟩ ⟨rfl,nLr _,nZl _,.inl rfl⟩ (by simp)
  unfold YticnbcfmbhjbgaaGreatDoor.CkP at HCk
  simp only[aVa] at HCk
  obtain⟨za,zb,h1,h2,h3⟩:∃ za zb:Int,(if May f d then(10:Int) else 1)=za/\(if May f d then(3:Int) else 1)=zb/\(za=10/\zb=3\/za=1/\zb=1):=by
   by_cases hm:May f d
   ·exact⟨10,3,if_pos hm,if_pos hm,.inl ⟨rfl,rfl⟩⟩
   ·exact⟨1,1,if_neg hm,if_neg hm,.inr ⟨rfl,rfl⟩⟩
  rw[h1] at HC
  rw[h2] at HCk
  clear h h1 h2
  rcases h3 with⟨rfl,rfl⟩|⟨rfl,rfl⟩
  all_goals
   go_enter Tryz.func5,Tryz.ntmps5
   go_wp2_with fail
   refine(HC.o _).mono ?_
   rintro e V1 ⟨rfl,hb⟩
   have HB1:=aA (bel HB0.o hb)
   have HK1:=aA (HK0.o.below hb)
   clear hb HC HB0 HK0 k0 k1
   go_wp2_with fail
   refine(HP.o _).mono ?_
   rintro e V2 ⟨rfl,hb⟩
   have hb2:=aD V2 (.cells tH 50)
   have HB2:=aA (bel (bel HB1.o hb) hb2)
   obtain⟨k0,k1,-,-⟩:=YticnbcfmbhjbgaaGreatDoor.aO (HK1.o.below hb)
   have z0:=(HK1.o.below hb).lt
   clear hb hb2 HP HB1 HK1
   go_wp2_with fail
   refine(HCk.o _).mono ?_
   rintro e V3 (⟨-,rfl,hb⟩|⟨h,-⟩)
   ·have HB3:=aA (bel (bel HB2.o hb) (aD V3 (.cells iA 55)))
    clear hb HCk HB2 k0 k1 z0
    go_wp2_with fail
    refine(HA.o _ HB3.o).mono ?_
    rintro e V4 ⟨rfl,hb⟩
    have HB4:=aA (bel HB3.o hb)
    clear hb HB3
    go_wp2_with fail
    go_ret
    exact⟨rfl,HB4.o⟩
   ·cases h
 ·have HC:=aA (fun(V:World) (hb:Below W.heap.size W V)=>xA f d h (HG.o.later hb))
  have HP:=aA fun V=>h.parse V
  clear h
  go_enter Tryz.func5,Tryz.ntmps5
  go_wp2_with fail
  refine(HC.o _ HB0.o).mono ?_
  rintro e V1 ⟨hb,hCp⟩
  have HB1:=aA (bel HB0.o hb)
  have HK1:=aA (HK0.o.below hb)
  clear hb HC HB0 HK0 k0 k1
  rcases hCp with⟨hc,rfl⟩|⟨hc,g,J,u,-,-,rfl,hP⟩
  ·obtain⟨ce,hce⟩:∃ ce,jS f d NM (gW es 0) (bP es ex) (rootOf es ex)=ce:=⟨_,rfl⟩
   rw[hce] at hc ⊢
   have HE:=aA hce
   have HC0:=aA hc
   clear hce hc
   go_wp2_with fail
   refine(HP.o _).mono ?_
   rintro e V2 ⟨na,nc,ba,bc,da,dc,hD,rfl,hX,hI,hN,hb⟩
   have HF:=aA (aQw (gX.2 ⟨es,ex,hD⟩) HE.o HC0.o)
   have hb2:=aD V2 (.cells (gJ (.slice na es.length nc) (.slice ba es.length bc) (.slice da (bV es+ex.size) dc) (.i (rootOf es ex))) 50)
   have HB2:=aA (bel (bel HB1.o hb) hb2)
   have HCk:=aA (dN f d (root:=rootOf es ex) (hX.later hb2) (hI.later hb2) (hN.later hb2) (mD hD.ok))
   unfold YticnbcfmbhjbgaaGreatDoor.CkP at HCk
   rw[HE.o] at HCk
   obtain⟨k0,k1,-,-⟩:=YticnbcfmbhjbgaaGreatDoor.aO (HK1.o.below hb)
   have z0:=(HK1.o.below hb).lt
   clear hb hb2 hD hX hI hN HP HB1 HK1 HE
   go_wp2_with fail
   refine HCk.o.mono ?_
   rintro e V3 (⟨-,rfl,hb⟩|⟨h,-⟩)
   ·have HB3:=aA (bel (bel HB2.o hb) (aD V3 (.cells iA 55)))
    clear hb HCk HB2 k0 k1 z0 HC0
    go_wp2_with fail
    refine(HA.o _ HB3.o).mono ?_
    rintro e V4 ⟨rfl,hb⟩
    have HB4:=aA (bel HB3.o hb)
    clear hb HB3
    rcases HF.o with rfl|h4
    ·go_wp2_with fail
     go_ret
     exact⟨rfl,HB4.o⟩
    ·rcases h4 with rfl|rfl|rfl|rfl
     all_goals
      go_wp2_with fail
      refine wp_region_quiet_below Cde.aNr (by kernel_rfl) ?_
      repeat (go_big_quiet_step (fail))
      refine wpQuiet_nil ?_
      intro V5 hw'
      obtain⟨⟨dq,osq⟩,hw⟩:=hw'
      have hb:=below_regrown V4 dq osq
      simp only at hw
      rw[<-hw] at hb
      have HB5:=aA (bel HB4.o hb)
      clear hw hb
      go_wp2_with fail
      go_ret
      exact⟨rfl,HB5.o⟩
   ·exact absurd h HC0.o
  ·have HE:=aA hc
   have HP1:=aA hP
   clear hc hP
   go_wp2_with fail
   refine(HP.o _).mono ?_
   rintro e V2 ⟨na,nc,ba,bc,da,dc,hD,rfl,hX,hI,hN,hb⟩
   have hb2:=aD V2 (.cells (gJ (.slice na es.length nc) (.slice ba es.length bc) (.slice da (bV es+ex.size) dc) (.i (rootOf es ex))) 50)
   have HB2:=aA (bel (bel HB1.o hb) hb2)
   have HCk:=aA (dN f d (root:=rootOf es ex) (hX.later hb2) (hI.later hb2) (hN.later hb2) (mD hD.ok))
   have HP2:=aA ((HP1.o.later hb).later hb2)
   unfold YticnbcfmbhjbgaaGreatDoor.CkP at HCk
   rw[HE.o] at HCk
   obtain⟨k0,k1,-,-⟩:=YticnbcfmbhjbgaaGreatDoor.aO (HK1.o.below hb)
   have z0:=(HK1.o.below hb).lt
   clear hb hb2 hD hX hI hN HP HB1 HK1 HE HP1
   generalize tT (bP es ex)=co at *
   generalize mxR (sJ (gW es 0) (bP es ex) [])=mx at *
   generalize (bP es ex).length=nn at *
   go_wp2_with fail
   refine HCk.o.mono ?_
   rintro e V3 (⟨h,-⟩|⟨-,gs,rfl,-,-,hb⟩)
   ·exact absurd rfl h
   have hb2:=aD V3 (.cells #[.slice (some ⟨gs,0,none⟩) nn nn,.i co,.i mx] 55)
   have HB3:=aA (bel (bel HB2.o hb) hb2)
   have HP3:=aA ((HP2.o.later hb).later hb2)
   have HR3:=aA (aB.new V3 55 #[.slice (some ⟨gs,0,none⟩) nn nn,.i co,.i mx])
   clear hb hb2 HCk HB2 HP2 k0 k1 z0
   go_wp2_with fail
   refine(HA.o _ HB3.o).mono ?_
   rintro e V4 ⟨rfl,hb⟩
   have HB4:=aA (bel HB3.o hb)
   have HP4:=aA (HP3.o.later hb)
   obtain⟨r0,r1,r2,-,-,-⟩:=YticnbcfmbhjbgaaGreatDoor.fQ (HR3.o.below hb)
   clear hb HB3 HP3 HR3
   go_wp2_with fail
   have x0:=cell_regrown r0
   have x1:=cell_regrown r1
   have x2:=cell_regrown r2
   have HCo:=aA fun(V':World) (hb:Below V4.heap.size V4 V')=>(lV (HP4.o.later hb)).mono fun e W' (h:e=.returned (.i co)/\W'=V')=>(⟨h.1,by rw[h.2];exact Below.refl _ _⟩:e=.returned (.i co)/\Below V'.heap.size V' W')
   refine wp_region_quiet_below Cde.aNr (by kernel_rfl) ?_
   repeat (go_big_quiet_step (fail))
   go_big_quiet_step ((go_at_call 19;exact Calls.regrown_of (HCo.o _ (below_regrown _ _ _))))
   repeat (go_big_quiet_step (fail))
   refine wpQuiet_nil ?_
   intro V5 hw'
   obtain⟨⟨dq,osq⟩,hw⟩:=hw'
   have hb:=below_regrown V4 dq osq
   simp only at hw
   rw[<-hw] at hb
   have HB5:=aA (bel HB4.o hb)
   clear hw hb
   go_wp2_with fail
   go_ret
   exact⟨rfl,HB5.o⟩
end Go.Proofs.Cpl
namespace Go.Proofs.YticnbcfmbhjbgaaGreatDoor
open Go.ChangeShapes Go.WideShapes Go.ChangeAt Go.RowKit Lx Pz
variable {cs:List Value} {W:World}
abbrev aEh:List (String × DataW Unit):=Rows.compileNamesRow.laid
theorem gIn : Tryz.prog.globalNamed "damask/print.inputs" = some 0 := by kernel_rfl
theorem gOp : Tryz.prog.globalNamed "damask/print.operators" = some 1 := by kernel_rfl
theorem bAe : Tryz.prog.globalNamed "internal/strconv.uint64pow10" = some 3 := by kernel_rfl
theorem yIn:(Tryz.prog.globals[0]?).map (·.type)=some 281:=by kernel_rfl
theorem yOp:(Tryz.prog.globals[1]?).map (·.type)=some 331:=by kernel_rfl
theorem bA7:(Tryz.prog.globals[3]?).map (·.type)=some 395:=by kernel_rfl
theorem bAi:Tryz.prog.cellsOf 395=20:=by kernel_rfl
theorem bAh:Tryz.prog.cellsOf 330=2:=by kernel_rfl
theorem aYt:Tryz.prog.cellsOf 9=1:=by kernel_rfl
theorem bAg:Tryz.prog.cellsOf 3=1:=by kernel_rfl
theorem bAj:Tryz.prog.cellsOf 248=1:=by kernel_rfl
theorem aWt {i:Nat}{v:Value}(h:(cs.drop i).take 1=[v]):cs[i]?=some v:=by
 have:=congrArg (·[0]?) h
 simpa [List.getElem?_take,List.getElem?_drop] using this
theorem aQp {H:Type}{enc:TypeId × Value->H}{base fuel:Nat}{sp:Nat->Bool}{held:Bool}{L:List aL}{p:List MemPlace}
  (h:DataW.trod enc Tryz.prog W base sp held fuel 281 cs=some (.agg (L.map fun s=>.lit (.string s)),p)):∀ i,i < 6->cs[i]?=some (.string (sB (L.getD i []))):=by
 obtain⟨xs,m,-,hx,-,hn,hel⟩:=DataW.trod_array Tryz.underlying281 h
 simp only[Prod.mk.injEq,DataW.agg.injEq] at hx
 intro i hi
 have h1:=hel i hi
 rw[aYt,Nat.mul_one] at h1
 have hlt:i < xs.length:=by omega
 rw[gEg hlt] at h1
 obtain⟨s,e1,e2,-⟩:=DataW.trod_string Tryz.underlying9 h1
 have e3:(xs.map (·.1))[i]?=some (.lit (.string s.data.toList)):=by rw[gEm,gEg hlt,e2];rfl
 rw[<-hx.1,gEm] at e3
 cases hL:L[i]? with
 | none=>rw[hL] at e3;cases e3
 | some l =>
  rw[hL] at e3
  simp only[Option.map_some,Option.some.injEq,DataW.lit.injEq,Lit.string.injEq] at e3
  rw[aWt e1,gdE,hL,oGs,e3]
theorem aQo {H:Type}{enc:TypeId × Value->H}{base fuel:Nat}{sp:Nat->Bool}{held:Bool}{L:List (aL × Nat)}{p:List MemPlace}
  (h:DataW.trod enc Tryz.prog W base sp held fuel 331 cs=some (.agg (L.map fun r=>.agg [.lit (.string r.1),.lit (.i (r.2:Int))]),p)):∀ i,i < 29->cs[i*2]?=some (.string (sB (L.getD i ([],0)).1))/\cs[i*2+1]?=some (.i (L.getD i ([],0)).2):=by
 obtain⟨xs,m,-,hx,-,hn,hel⟩:=DataW.trod_array Tryz.underlying331 h
 simp only[Prod.mk.injEq,DataW.agg.injEq] at hx
 intro i hi
 have h1:=hel i hi
 rw[bAh] at h1
 have hlt:i < xs.length:=by omega
 rw[gEg hlt] at h1
 obtain⟨y0,y1,m2,e2,-,g0,g1⟩:=trod_struct2 Tryz.underlying330 h1
 simp only[aYt,bAg,List.drop_zero] at g0 g1
 obtain⟨s,a1,a2,-⟩:=DataW.trod_string Tryz.underlying9 g0
 obtain⟨z,b1,b2,-⟩:=DataW.trod_int Tryz.underlying3 g1
 have c0:cs[i*2]?=some (.string s):=by
  have:=congrArg (·[0]?) a1
  simpa [List.getElem?_take,List.getElem?_drop] using this
 have c1:cs[i*2+1]?=some (.i z):=by
  have:=congrArg (·[0]?) b1
  simpa [List.getElem?_take,List.getElem?_drop] using this
 have e3:(xs.map (·.1))[i]?=some (.agg [.lit (.string s.data.toList),.lit (.i z)]):=by rw[gEm,gEg hlt,e2,a2,b2];rfl
 rw[<-hx.1,gEm] at e3
 cases hL:L[i]? with
 | none=>rw[hL] at e3;cases e3
 | some l =>
  rw[hL] at e3
  simp only[Option.map_some,Option.some.injEq,DataW.agg.injEq,List.cons.injEq,DataW.lit.injEq,Lit.string.injEq,Lit.int.injEq,true_and,and_true] at e3
  rw[c0,c1,gdE,hL,oGs,e3.1,e3.2]
  exact⟨congrArg (fun z=>some (Value.string z)) (aBd s).symm,rfl⟩
theorem aYl (h0:laidMetH Tryz.prog aEh W):Gl W:=by
 rw[MakeChecks.laidMetH_plain _ _ _ (by kernel_rfl)] at h0
 have h3 : laidMet Tryz.prog [("internal/strconv.uint64pow10", Rows.laid_internal_strconv_uint64pow10), ("damask/print.operators", Rows.laid_damask_print_operators), ("damask/print.inputs", Rows.laid_damask_print_inputs)] W := h0.tail.tail
 have h4:=h3.tail
 have h5:=h4.tail
 have hT : Lib.TabIs Tryz.prog W "internal/strconv.uint64pow10" .u64 Lib.pow10Tab :=
  Lib.tabIs_of_head bAe bA7 Tryz.underlying395 Tryz.underlying248 bAj bAi (show laidMet Tryz.prog (("internal/strconv.uint64pow10", Lib.tabData .u64 Lib.pow10Tab) :: _) W from h3)
 obtain⟨ps,⟨g,t,cs,fuel,p,q,hg,ht,hv,hd,_,_⟩,_⟩:=h4
 obtain rfl:=Option.some.inj (gOp.symm.trans hg)
 obtain rfl:=Option.some.inj (yOp.symm.trans ht)
 obtain⟨ps2,⟨g2,t2,cs2,fuel2,p2,q2,hg2,ht2,hv2,hd2,_,_⟩,_⟩:=h5
 obtain rfl:=Option.some.inj (gIn.symm.trans hg2)
 obtain rfl:=Option.some.inj (yIn.symm.trans ht2)
 rw[show Rows.laid_damask_print_operators=(.agg (nO.map fun r=>.agg [.lit (.string r.1),.lit (.i (r.2:Int))]):DataW Unit) from by kernel_rfl] at hd
 rw[show Rows.laid_damask_print_inputs=(.agg (xY.map fun s=>.lit (.string s)):DataW Unit) from by kernel_rfl] at hd2
 have r1:=aQo hd
 have r2:=aQp hd2
 refine⟨fun k hk=>?_,fun k hk=>⟨?_,?_⟩,hT⟩
 ·have:=World.var?_cell hg2 hv2 k
  rw[this,<-Array.getElem?_toList]
  exact r2 k hk
 ·have:=World.var?_cell hg hv (k*2)
  rw[this,<-Array.getElem?_toList]
  exact(r1 k hk).1
 ·have:=World.var?_cell hg hv (k*2+1)
  rw[this,<-Array.getElem?_toList]
  exact(r1 k hk).2
end Go.Proofs.YticnbcfmbhjbgaaGreatDoor
namespace Go.Proofs.YticnbcfmbhjbgaaGreatDoor
open Go.ChangeShapes Go.WideShapes Go.ChangeAt Go.RowKit
theorem aMh (os:Os)(args:Array Value):laidMetH Tryz.prog aEh ((World.doorLaid Tryz.prog 400 os).forCall (fun _ _=>0) ⟨#[],args,[]⟩).memory :=
 laidMetH_of_parts3 (fuel:=8) (laidMet_of_run' 8 (by kernel_rfl) (by kernel_rfl)) (by kernel_rfl) (by kernel_rfl)
theorem qI (os:Os)(started:os.Started)(H:Type)(enc:TypeId × Value->H) :
  ReturnsInHanded {} Tryz.checked os 5 .any (fun w args=>(Rows.compileNamesSpec.pre enc Tryz.prog Tryz.f5 [] false w args/\laidMetH Tryz.prog aEh w)/\sizedMet enc Tryz.prog Tryz.f5 (OpenSpec.ofChange Rows.compileNamesSpec) false w args)
   (Rows.compileNamesSpec.post enc Tryz.prog Tryz.f5 false true false false):=by
 refine returnsInHanded_of_change_and (C:=Tryz.checked) (X:=fun w _=>laidMetH Tryz.prog aEh w) (fun _ _ _ hh h=>h.of_heap hh) bAx started (by kernel_rfl) Tryz.func5
  (ChangeSpec.witness_shaped (enc:=enc) (C:=Tryz.checked) (os:=os) (X:=fun w _=>laidMetH Tryz.prog aEh w) false (World.doorLaid Tryz.prog 400 os) #[.string ⟨#[]⟩,.agg #[.i 0,.i 0]] 8 rfl (World.shaped_of_RefB (by kernel_rfl) (by kernel_rfl)) (by kernel_rfl) (by kernel_rfl) (by kernel_rfl) (aMh os _)) ?_
 intro W base args ds gs before hval0 hW hcnd hsz0 hL _
 have hval:∀(j:Nat) t v,Tryz.f5.params[j]?=some t->args[j]?=some v->Value.okWide Tryz.prog W .any base t v:=hval0
 have hW':=hW
 obtain⟨p,q,hA0,hV,rfl,hfz,hnd⟩:=hW
 have hA:DataW.TrodAll enc Tryz.prog W 0 (fun _=>true) true Tryz.f5.params.toList args.toList ds p:=hA0
 rw[Tryz.params5] at hA hval
 obtain⟨v0,vs0,d0,ds0,p0,q0,hargs,rfl,rfl,h0,r0⟩:=trodAll_cons hA
 obtain⟨v1,vs1,d1,ds1,p1,q1,hargs1,rfl,rfl,h1,r1⟩:=trodAll_cons r0
 obtain⟨rfl,rfl,rfl⟩:=trodAll_nil r1
 obtain rfl:args=#[v0,v1]:=by cases args;simp_all
 obtain⟨rfl,rfl⟩:=trodVars_none hV
 have k0:=h0
 have lt0:∀ x ∈ p0,x.block < W.heap.size:=by obtain⟨m,hm⟩:=k0;exact DataW.trod_lt m _ _ _ hm
 obtain⟨s0,rfl,hd0,hp0,hs0⟩:=Go.ChangeMaps.open_string Tryz.underlying9 (hval 0 9 v0 rfl rfl) h0
 have k1:=h1
 have lt1:∀ x ∈ p1,x.block < W.heap.size:=by obtain⟨m,hm⟩:=k1;exact DataW.trod_lt m _ _ _ hm
 obtain⟨f1,e1,rfl⟩:=aKf (hval 1 23 v1 rfl rfl) h1
 clear hA0 hval0
 refine(Cpl.aGq f1 e1 s0 (aYl hL)).mono fun e W' ⟨he,bel⟩=>?_
 subst he
 exact⟨_,rfl,_,_,_,[],_,[],hW',trodAll_mk1 (shut_bool Tryz.underlying4 _),trodAll_cons_mk (Below.trod aEi (by kernel_rfl) (of_decide_eq_true (by kernel_rfl)) k0 bel lt0) (trodAll_cons_mk (Below.trod aEi (by kernel_rfl) (of_decide_eq_true (by kernel_rfl)) k1 bel lt1) (trodAll_mk0)),rfl,bel.frame _,fun h=>by cases h⟩
end Go.Proofs.YticnbcfmbhjbgaaGreatDoor
