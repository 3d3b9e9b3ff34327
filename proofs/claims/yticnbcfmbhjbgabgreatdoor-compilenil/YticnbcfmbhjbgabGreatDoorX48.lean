import Derived.Test.YticnbcfmbhjbgabGreatDoorXH
import Derived.Test.YticnbcfmbhjbgabGreatDoorRows
import Derived.MakeChecks
import Derived.Lib.LaidTab
import Derived.OpenShut
import Derived.Stop.LaidErr
import Derived.LaidMore
import Derived.ProofKit
import Derived.Test.YticnbcfmbhjbgabGreatDoorCards
import Derived.Test.YticnbcfmbhjbgabGreatDoorTie
import Derived.SevenTiedAt
import Derived.Test.YticnbcfmbhjbgabGreatDoorX27
import Derived.Test.YticnbcfmbhjbgabGreatDoorX43
import Derived.Test.YticnbcfmbhjbgabGreatDoorX47
import Derived.Test.YticnbcfmbhjbgabGreatDoorX29
import Derived.Test.YticnbcfmbhjbgabGreatDoorX37
import Derived.Test.YticnbcfmbhjbgabGreatDoorX30
import Derived.Test.YticnbcfmbhjbgabGreatDoorX11
import Derived.Test.YticnbcfmbhjbgabGreatDoorX31
import Derived.Test.YticnbcfmbhjbgabGreatDoorX46
import Derived.Test.YticnbcfmbhjbgabGreatDoorX05
set_option maxRecDepth 100000
set_option maxHeartbeats 32000000
set_option linter.unusedVariables false
namespace Go.Proofs.Cpl
open Go.RowKit Go.IntWalk Lx Pz
open YticnbcfmbhjbgabGreatDoor (Wd lF Fits eT gU zU aB bel aD aA lG uV mxR tQ nW nM iX rQ Tx Iz Nz dC rootOf Dec nZ jG whole aP0 Gl CkP sP uA gV aE0 aA7 yJ aAl yD kL mF bs dE gJ sB)
open Cde (In i0 ia kd cd Ins aC aP cZ mY)
open Vfy (bB)
open Pss (psF iA pW rnE rnI rnU rnK okP)
def TrT (s:ByteArray)(NM:List aL)(es:List E)(ex:E):Prop:=s.size<=1024/\∃ A,ak (bs s)=some A/\GP [] [] A (NM,es,ex)
theorem TrT.parse {s : ByteArray} {NM : List aL} {es : List E} {ex : E} (h : TrT s NM es ex) (w : World) : Calls Tryz.prog 24 #[.string s] w fun e W' => ∃ na nc ba bc da dc, Dec NM (gZ es 0) (dC es ex) (rootOf es ex) es ex ∧
      e = .returned (.tuple #[.agg (gU (.slice na es.length nc) (.slice ba es.length bc) (.slice da (bU es + ex.size) dc) (.i (rootOf es ex))), .i 0]) ∧ Tx W' na es.length nc NM ∧ Iz W' ba es.length bc (gZ es 0) ∧
      Nz W' da (bU es + ex.size) dc (dC es ex) ∧ Below w.heap.size w W' := by
  obtain ⟨hl, A, ha, hg⟩ := h
  exact aA7 ha hl hg w
theorem aLc (f d out:Int){a:Option Addr}{n cap:Nat}{L:List In}{W:World}(hL:Ins W a n cap L)(h:bB f d L out=0){I:List In}{u:Int}(hI:psF f d iA (L,out)=(I,u)) :
  Calls Tryz.prog 50 #[.agg (cd f d a n cap out)] W fun e W'=>∃ a' c',e=.returned (.tuple #[.agg (cd f d a' I.length c' u),.i 0])/\W'.ownsRow W.heap.size 76 6 (.slice a' I.length c') I.length (cZ I)/\Below W.heap.size W W':=by
 refine(Pss.aLb f d out hL).mono ?_
 rintro e W' ⟨a',c',rfl,hO,hb⟩
 have h1:rnE f d L out iA=0:=by rw[rnE,if_pos (by decide)];exact h
 have e1:rnI f d L out iA=I:=by rw[rnI,if_pos h1,hI]
 rw[e1] at hO
 exact⟨a',c',by rw[e1];simp[rnK,rnU,h1,hI],hO,hb⟩
def txP (NM:List aL)(es:List E)(ex:E):ByteArray:=if 1024 < (whole NM es ex).length then⟨#[]⟩ else sB (whole NM es ex)
theorem aKg {W:World}{na ba da:Option Addr}{nl nc bl bc dl dc:Nat}{root:Int}{NM:List aL}{BS:List Int}{NS:List Nd}(hX:Tx W na nl nc NM)(hB:Iz W ba bl bc BS)(hN:Nz W da dl dc NS)(hG:Gl W){es:List E}{ex:E}(hD:Dec NM BS NS root es ex) :
  Calls Tryz.prog 35 #[.agg (gU (.slice na nl nc) (.slice ba bl bc) (.slice da dl dc) (.i root))] W fun e W'=>(∃ x,e=.returned (.tuple #[.string (txP NM es ex),.i x]))/\Below W.heap.size W W':=by
 refine(aE0 hX hB hN hG hD).mono ?_
 rintro e W' ⟨rfl,hb⟩
 refine⟨?_,hb⟩
 unfold txP
 split
 ·exact⟨_,rfl⟩
 ·exact⟨_,rfl⟩
end Go.Proofs.Cpl
namespace Go.Proofs.Cpl
open Go.RowKit Go.IntWalk Lx Pz
open YticnbcfmbhjbgabGreatDoor (Wd lF Fits eT gU zU aB bel aD aA lG uV mxR tQ nW nM iX rQ Tx Iz Nz dC rootOf Dec nZ jG whole aP0 Gl CkP sP uA gV yD kL mF bs sB)
open Cde (In i0 ia kd cd Ins aC aP cZ mY)
open Knd (May)
open Fld (bD)
open Vfy (bB)
open Pss (psF iA aGu)
structure Cx (W V:World)(bt:Nat)(kv tv:Array Value):Prop where
 k:aB V W.heap.size 35 kv
 t:aB V bt 51 tv
 lo:Below W.heap.size W V
theorem Cx.below {W V V':World}{bt:Nat}{kv tv:Array Value}(h:Cx W V bt kv tv)(hb:Below V.heap.size V V'):Cx W V' bt kv tv:=⟨h.k.below hb,h.t.below hb,bel h.lo hb⟩
def CpA (f d:Int)(NM:List aL)(es:List E)(ex:E)(W:World)(e:Ending)(W':World):Prop :=
 Below W.heap.size W W'/\(
  (lG f d NM (gZ es 0) (dC es ex) (rootOf es ex)≠0/\e=.returned (.tuple #[.pointer none,.i (lG f d NM (gZ es 0) (dC es ex) (rootOf es ex))])) \/
  (lG f d NM (gZ es 0) (dC es ex) (rootOf es ex)=0/\∃ g J u,psF f d iA ((rQ f d (gZ es 0) (dC es ex)).2,(rQ f d (gZ es 0) (dC es ex)).1.getD (rootOf es ex).toNat 0)=(J,u)/\bB f d J u=0/\e=.returned (.tuple #[.pointer (some ⟨g,0,none⟩),.i 0])/\Pg W' g f d J u (txP NM es ex) (uV (dC es ex))))
theorem aF3 (f d:Int){s:ByteArray}{NM:List aL}{es:List E}{ex:E}(h:TrT s NM es ex){W:World}(hG:Gl W) :
  Calls Tryz.prog 18 #[.string s,.agg (eT f d)] W (CpA f d NM es ex W):=by
 have HK:=aA fun V=>mY f d V
 have HP:=aA fun V=>h.parse V
 have HK0:=aA (aB.new W 35 (eT f d))
 have HB0:=aA (aD W (.cells (eT f d) 35))
 have HG:=aA hG
 clear h hG
 obtain⟨k0,k1,-,-⟩:=YticnbcfmbhjbgabGreatDoor.aP HK0.o
 by_cases hm:May f d
 ·rw[if_pos hm] at HK
  go_enter Tryz.func18,Tryz.ntmps18
  go_wp2_with fail
  refine(HK.o _).mono ?_
  rintro e V1 ⟨rfl,hb⟩
  have HB1:=aA (bel HB0.o hb)
  have HK1:=aA (HK0.o.below hb)
  clear hb HK k0 k1 HK0 HB0
  go_wp2_with fail
  refine(HP.o _).mono ?_
  rintro e V2 ⟨na,nc,ba,bc,da,dc,hD,rfl,hX,hI,hN,hb⟩
  have hb2:=aD V2 (.cells (gU (.slice na es.length nc) (.slice ba es.length bc) (.slice da (bU es+ex.size) dc) (.i (rootOf es ex))) 51)
  have HD:=aA hD
  have HX:=aA (hX.later hb2)
  have HI:=aA (hI.later hb2)
  have HN:=aA (hN.later hb2)
  have HC2:Hid (Cx W (V2.alloc (.cells (gU (.slice na es.length nc) (.slice ba es.length bc) (.slice da (bU es+ex.size) dc) (.i (rootOf es ex))) 51)) V2.heap.size (eT f d) (gU (.slice na es.length nc) (.slice ba es.length bc) (.slice da (bU es+ex.size) dc) (.i (rootOf es ex)))) :=
   aA ⟨(HK1.o.below hb).below hb2,aB.new _ _ _,bel (bel HB1.o hb) hb2⟩
  obtain⟨k0,k1,-,-⟩:=YticnbcfmbhjbgabGreatDoor.aP (HK1.o.below hb)
  have z0:=(HK1.o.below hb).lt
  have hs:=yD hD.ok
  have HCk:=aA (gV f d (root:=rootOf es ex) HX.o HI.o HN.o hs)
  have HS:=aA hs
  clear hD hX hI hN hb hb2 HK1 HB1 HP hs
  generalize hnl0:es.length=nl at *
  generalize hdl:bU es+ex.size=dl at *
  generalize hrt:rootOf es ex=root at *
  generalize hbs:gZ es 0=BS at *
  generalize hns:dC es ex=NS at *
  go_wp2_with fail
  generalize V2.heap.size=bt at *
  refine HCk.o.mono ?_
  rintro e V3 (⟨hc,rfl,hb⟩|⟨hc,g,rfl,-,hS,hb⟩)
  ·obtain⟨ce,hce⟩:∃ ce,lG f d NM BS NS root=ce:=⟨_,rfl⟩
   have hr:(ce != 0)=true:=by rw[<-hce];simpa using hc
   have HE:Hid (∀ e W',Below W.heap.size W W'->e=.returned (.tuple #[.pointer none,.i ce])->CpA f d NM es ex W e W'):=aA fun e W' hb he=>⟨hb,.inl ⟨by rw[hbs,hns,hrt];exact hc,by rw[hbs,hns,hrt,hce];exact he⟩⟩
   rw[hce]
   have HB3:=aA (bel (bel HC2.o.lo hb) (aD V3 (.cells iX 56)))
   clear hc hb hce HC2 HCk k0 k1 z0 hbs hns hrt
   go_wp2_with fail
   exact bPr (v:=.tuple #[.pointer none,.i ce]) (by simp[results,Tryz.results18,go_sem]) rfl (HE.o _ _ HB3.o rfl)
  ·have HC0:=aA hc
   have hb2:=aD V3 (.cells #[.slice (some ⟨g,0,none⟩) NS.length NS.length,.i (uV NS),.i (mxR (tQ BS NS []))] 56)
   generalize mxR (tQ BS NS [])=mx at *
   generalize hco:uV NS=co at *
   have HC3:=aA ((HC2.o.below hb).below hb2)
   have HX3:=aA ((HX.o.later hb).later hb2)
   have HI3:=aA ((HI.o.later hb).later hb2)
   have HN3:=aA ((HN.o.later hb).later hb2)
   have HR3:=aA (aB.new V3 56 #[.slice (some ⟨g,0,none⟩) NS.length NS.length,.i co,.i mx])
   have HLw:=aA (uA f d (root:=root) HX3.o HI3.o HN3.o HS.o)
   obtain⟨k0,k1,-,-⟩:=YticnbcfmbhjbgabGreatDoor.aP (HC2.o.below hb).k
   obtain⟨t0,t1,t2,t3⟩:=aC (HC2.o.below hb).t
   have z1:=(HC2.o.below hb).k.lt
   have z2:=(HC2.o.below hb).t.lt
   clear hb hb2 hS HC2 HX HI HN HCk hm
   go_wp2_with fail
   generalize V3.heap.size=br at *
   refine HLw.o.mono ?_
   rintro e V4 ⟨F,D,I,o,ca,cc,rfl,hIn,-,hI1,hb⟩
   obtain⟨rfl,rfl,hIl,hol⟩:=hI1 hc
   obtain⟨t1',-⟩:=sP hc hIl hol
   obtain⟨⟨J,u⟩,hJ⟩:∃ x,psF F D iA (I,o)=x:=⟨_,rfl⟩
   have hk:=aGu (f:=F) (d:=D) iA (I,o) t1'
   rw[hJ] at hk
   rw[hc]
   have hb2:=aD V4 (.cells (cd F D ca I.length cc o) 39)
   have HZ:=aA (aLc F D o (hIn.later hb2) t1' hJ)
   have HJ:=aA hJ
   have HK:=aA hk
   have HIl:=aA hIl
   have HOl:=aA hol
   have HC4:=aA (HC3.o.below hb)
   have HX4:=aA (HX3.o.later hb)
   have HI4:=aA (HI3.o.later hb)
   have HN4:=aA (HN3.o.later hb)
   have HR4:=aA (HR3.o.below hb)
   have HD4:=aA (aB.new V4 39 (cd F D ca I.length cc o))
   have HB4:=aA hb2
   clear hIn hI1 hb hb2 hIl hol t1' hJ hk hc HC3 HX3 HI3 HN3 HR3 HLw k0 k1 t0 t1 t2 t3 z1 z2
   go_wp2_with fail
   refine HZ.o.mono ?_
   rintro e V5 ⟨a',c',rfl,hO,hb⟩
   have hd5:=HD4.o.below hb
   obtain⟨c0,c1,c2,c3⟩:=aC hd5
   obtain⟨f0,f1,f2,f3⟩:=bD hd5
   have hlt:=hd5.lt
   have hO6:=mF hO hd5 (by decide) (.i F) (.i D) (.slice a' J.length c') (.i u)
   obtain⟨hp,hpb⟩:=kL hd5 (w:=V4) (bel HB4.o hb) (nLr _) (.i F) (.i D) (.slice a' J.length c') (.i u)
   obtain⟨V6,hV6⟩:∃ V6,(((V5.setCell ⟨V4.heap.size,0,none⟩ (.i F)).setCell ⟨V4.heap.size,1,none⟩ (.i D)).setCell ⟨V4.heap.size,2,none⟩ (.slice a' J.length c')).setCell ⟨V4.heap.size,3,none⟩ (.i u)=V6:=⟨_,rfl⟩
   rw[hV6] at hO6 hp hpb
   obtain⟨a9,c9,e2,hJn,-⟩:=Ins.of_owns hO6
   cases e2
   have HJn:=aA hJn
   have HC6:=aA (HC4.o.below hpb)
   have HR6:=aA (HR4.o.below hpb)
   have HD6:=aA hp
   have HPr:=aA (aKg (HX4.o.later hpb) (HI4.o.later hpb) (HN4.o.later hpb) (HG.o.later HC6.o.lo) HD.o)
   obtain⟨t0,t1,t2,t3⟩:=aC HC6.o.t
   clear hO hb hd5 hO6 hp hpb hJn HZ HC4 HX4 HI4 HN4 HR4 HD4 HB4 HG
   go_wp2_with fail
   generalize V4.heap.size=bk at *
   refine HPr.o.mono ?_
   rintro e V7 ⟨⟨px,rfl⟩,hb⟩
   have HC7:=aA (HC6.o.below hb)
   obtain⟨c0,c1,c2,c3⟩:=aC (HD6.o.below hb)
   obtain⟨r0,r1,r2,-,-,-⟩:=YticnbcfmbhjbgabGreatDoor.gT (HR6.o.below hb)
   have HRd:=aA (aKk F D u (txP NM es ex) co (HJn.o.later hb))
   clear hb HC6 HR6 HD6 HPr HJn t0 t1 t2 t3
   go_wp2_with fail
   refine HRd.o.mono ?_
   rintro e V8 ⟨hb,⟨hn,-⟩|⟨-,g8,rfl,hP⟩⟩
   ·exact absurd HK.o hn
   go_wp2_with fail
   exact bPr (v:=.tuple #[.pointer (some ⟨g8,0,none⟩),.i 0]) (by simp[results,Tryz.results18,go_sem]) rfl ⟨bel HC7.o.lo hb,.inr ⟨by rw[hbs,hns,hrt];exact HC0.o,g8,J,u,by rw[hbs,hns,hrt,<-HIl.o,<-HOl.o];exact HJ.o,HK.o,rfl,by rw[hns,hco];exact hP⟩⟩
 ·rw[if_neg hm] at HK
  have hce:lG f d NM (gZ es 0) (dC es ex) (rootOf es ex)=1:=by unfold YticnbcfmbhjbgabGreatDoor.lG;rw[if_pos hm]
  have HE:Hid (∀ e W',Below W.heap.size W W'->e=.returned (.tuple #[.pointer none,.i 1])->CpA f d NM es ex W e W'):=aA fun e W' hb he=>⟨hb,.inl ⟨by rw[hce];decide,by rw[hce];exact he⟩⟩
  clear hm hce
  go_enter Tryz.func18,Tryz.ntmps18
  go_wp2_with fail
  refine(HK.o _).mono ?_
  rintro e V1 ⟨rfl,hb⟩
  have HB1:=aA (bel HB0.o hb)
  clear hb HK k0 k1
  go_wp2_with fail
  exact bPr (v:=.tuple #[.pointer none,.i 1]) (by simp[results,Tryz.results18,go_sem]) rfl (HE.o _ _ HB1.o rfl)
end Go.Proofs.Cpl
namespace Go.Proofs.Cpl
open Go.RowKit Go.IntWalk Lx Pz
open Go.Lib (decDigits itoa)
open YticnbcfmbhjbgabGreatDoor (aB bel aD aA lG uV rQ dC rootOf whole Gl bs dE gJ sB aLj fH Fo aMp vW aLl aUf aUg aDn aDo aFv)
open Cde (In i0 kd cd Ins cZ)
open Vfy (bB)
open Pss (psF iA)
def ayT:aL:=[40,112,40,45,49,44,48,41,43,112,40,45,49,44,48,41,41,47,50]
abbrev ayP:List Tk:=[.word wP,.lp,.op 5 9,.num 1,.comma,.num 0,.rp]
def ayK:List Tk:=(.lp::((ayP++.op 5 8::ayP)++[.rp]))++.op 6 11::[.num 2]
def ayE:E:=.bin 11 (.bin 8 (.leaf (lf 3 0 0 2 (-1) 0)) (.leaf (lf 3 0 0 2 (-1) 0))) (.leaf (lf 1 2 0 0 0 0))
theorem aX0:ak ayT=some ayK:=by
 have d1:∀ d:Nat,d < 10->∀ r,Fo r->ak (UInt8.ofNat (48+d)::r)=(ak r).map ([.num d]++·):=fun d hd r hr=>by
  have:=aLj (u:=d) (by omega) r hr
  rwa[fH hd] at this
 have n1c:∀ r,ak (49::44::r)=(ak (44::r)).map ([.num 1]++·):=fun r=>d1 1 (by decide) _ (vW (by decide) r)
 have n0r:∀ r,ak (48::41::r)=(ak (41::r)).map ([.num 0]++·):=fun r=>d1 0 (by decide) _ (vW (by decide) r)
 have n2:ak [50]=(ak []).map ([.num 2]++·):=d1 2 (by decide) [] aMp
 have pl:∀ r,ak (112::40::r)=(ak (40::r)).map ([.word wP]++·):=fun r=>aLl (x:=wP) (by decide) (40::r) (vW (by decide) r)
 have lp:∀ r,ak (40::r)=(ak r).map ([.lp]++·):=fun r=>aUf r trivial
 have rp:∀ r,ak (41::r)=(ak r).map ([.rp]++·):=fun r=>aUg r trivial
 have cm:∀ r,ak (44::r)=(ak r).map ([.comma]++·):=fun r=>aDn r trivial
 have mi:∀ r,ak (45::r)=(ak r).map ([.op 5 9]++·):=fun r=>aDo r trivial
 have pp:∀ r,ak (43::r)=(ak r).map ([.op 5 8]++·):=fun r=>aFv 43 _ (by decide) (by decide) (by decide) (by decide) (by decide) (by decide) r trivial
 have dv:∀ r,ak (47::r)=(ak r).map ([.op 6 11]++·):=fun r=>aFv 47 _ (by decide) (by decide) (by decide) (by decide) (by decide) (by decide) r trivial
 unfold ayT
 simp only[pl,n1c,n0r,n2,lp,rp,cm,mi,pp,dv,aUy,Option.map_some]
 rfl
theorem aX3:GP [] [] ayK ([],[],ayE):=by
 refine GP.last ?_
 have a8:G [] 8 ayP (.leaf (lf 3 0 0 2 (-1) 0)):=G.place (s:=wP) (.inl rfl) rfl
 have h2:G [] 8 [.num 2] (.leaf (lf 1 2 0 0 0 0)):=G.num 2
 have s6:G [] 6 (ayP++.op 5 8::ayP) _:=G.bin (k:=5) (o:=8) (by omega) (YticnbcfmbhjbgabGreatDoor.G.ups a8 (by decide) (by decide)) (YticnbcfmbhjbgabGreatDoor.G.ups a8 (by decide) (by decide))
 have p8:G [] 8 (.lp::((ayP++.op 5 8::ayP)++[.rp])) _:=G.par (YticnbcfmbhjbgabGreatDoor.G.ups s6 (by decide) (by decide))
 exact YticnbcfmbhjbgabGreatDoor.G.ups (G.bin (k:=6) (o:=11) (by omega) (YticnbcfmbhjbgabGreatDoor.G.ups p8 (by decide) (by decide)) (YticnbcfmbhjbgabGreatDoor.G.ups h2 (by decide) (by decide))) (by omega) (by omega)
theorem aX4:TrT (sB ayT) [] [] ayE:=⟨by decide,ayK,by rw[gJ];exact aX0,aX3⟩
theorem aX1:lG 0 8 [] (gZ [] 0) (dC [] ayE) (rootOf [] ayE)=0:=by decide +kernel
theorem aX2:uV (dC [] ayE)=8:=by decide +kernel
theorem aQt:(psF 0 8 iA ((rQ 0 8 (gZ [] 0) (dC [] ayE)).2,(rQ 0 8 (gZ [] 0) (dC [] ayE)).1.getD (rootOf [] ayE).toNat 0)).1.length=3:=by decide +kernel
theorem aLs:whole [] [] ayE=ayT:=by
 have d2:itoa 2=[50]:=by unfold itoa;rw[if_neg (by decide),show (2:Int).toNat=2 from rfl,fH (by decide)];rfl
 have d0:itoa 0=[48]:=by unfold itoa;rw[if_neg (by decide),show (0:Int).toNat=0 from rfl,fH (by decide)];rfl
 have dm:itoa (-1)=[45,49]:=by unfold itoa;rw[if_pos (by decide),show (-1:Int).natAbs=1 from rfl,fH (by decide)];rfl
 unfold YticnbcfmbhjbgabGreatDoor.whole ayE ayT
 simp[YticnbcfmbhjbgabGreatDoor.ltT,cK,vC,uI,brk,rkE,lfk,ork,nT,nK,d2,d0,dm]
theorem aX5:txP [] [] ayE=sB ayT:=by
 unfold txP
 rw[aLs,if_neg (by decide)]
theorem aAn (f d o:Int)(a:Option Addr)(n c:Nat)(w:World):(Instr.field 39 (.agg (cd f d a n c o)) 1).run Tryz.prog w=.ok (.slice a n c) w:=by
 simp[Instr.field,asAgg,go_sem]
theorem aF1 {W:World}(hG:Gl W):Calls Tryz.prog 11 #[] W fun e w'=>e=.returned (.bool true)/\Below W.heap.size W w':=by
 have HC:=aA (fun(V:World) (hb:Below W.heap.size W V)=>aF3 0 8 aX4 (hG.later hb))
 go_enter Tryz.func11,Tryz.ntmps11
 go_wp2_with fail
 refine(HC.o _ (Below.refl _ _)).mono ?_
 rintro e V1 ⟨hb,⟨hc,-⟩|⟨-,g,J,u,hJ,hv,rfl,hP⟩⟩
 ·exact absurd aX1 hc
 have hl:=aQt
 rw[hJ] at hl
 rw[aX5,aX2] at hP
 have HP:=aA hP
 have HCo:=aA (aL7 hP hv)
 have HB1:=aA hb
 clear hb hJ hv hP HC
 go_wp2_with fail
 refine(oD HP.o).mono ?_
 rintro e V2 ⟨rfl,rfl⟩
 go_wp2_with fail
 refine HCo.o.mono ?_
 rintro e V3 ⟨a',c',rfl,-,hb⟩
 have HP3:=aA (HP.o.later hb)
 have HB3:=aA (bel HB1.o hb)
 rw[hl]
 have hf:=aAn 0 8 u a' 3 c'
 clear hb HP HCo
 go_wp2_with fail
 refine(aPr HP3.o).mono ?_
 rintro e V4 ⟨rfl,rfl⟩
 go_wp2_with fail
 go_ret
 exact⟨rfl,HB3.o⟩
end Go.Proofs.Cpl
namespace Go.Proofs.Cpl
open Go.RowKit Go.IntWalk
open YticnbcfmbhjbgabGreatDoor (Wd lF aB bel aD aA Gl)
open Cde (cd)
theorem aN2 (v:Wd)(pa:Option Addr)(pl pc:Nat){W:World}(hG:Gl W) :
  Calls Tryz.prog 3 #[.agg (lF v pa pl pc)] W fun e w'=>e=.returned (.bool true)/\Below W.heap.size W w':=by
 have HB0:=aA (aD W (.cells (lF v pa pl pc) 24))
 have HW:=aA (aB.new W 24 (lF v pa pl pc))
 have HV:=aA fun w=>aK2 v pa pl pc w
 have HQ:=aA fun w=>aKi v pa pl pc w
 have HA:=aA fun(V:World) (hb:Below W.heap.size W V)=>aF1 (hG.later hb)
 have hf:=aAn 0 0 0 none 0 0
 go_enter Tryz.func3,Tryz.ntmps3
 go_wp2_with fail
 refine(HV.o _).mono ?_
 rintro e V1 ⟨rfl,hb⟩
 have HB1:=aA (bel HB0.o hb)
 obtain⟨w0,w1,w2,w3⟩:=Cde.aC (HW.o.below hb)
 clear hb HV HB0
 go_wp2_with fail
 refine(HQ.o _).mono ?_
 rintro e V2 ⟨rfl,hb⟩
 have HB2:=aA (bel HB1.o hb)
 clear hb HQ HB1 HW w0 w1 w2 w3
 go_wp2_with fail
 refine(HA.o _ HB2.o).mono ?_
 rintro e V3 ⟨rfl,hb⟩
 have HB3:=aA (bel HB2.o hb)
 clear hb HA HB2
 go_wp2_with fail
 refine(aPs _).mono ?_
 rintro e V4 ⟨rfl,hb⟩
 have HB4:=aA (bel HB3.o hb)
 clear hb HB3
 go_wp2_with fail
 refine(aMb _).mono ?_
 rintro e V5 ⟨rfl,hb⟩
 have HB5:=aA (bel HB4.o hb)
 clear hb HB4
 go_wp2_with fail
 refine(aNd _).mono ?_
 rintro e V6 ⟨rfl,hb⟩
 have HB6:=aA (bel HB5.o hb)
 clear hb HB5
 go_wp2_with fail
 refine(aL8 _).mono ?_
 rintro e V7 ⟨rfl,hb⟩
 have HB7:=aA (bel HB6.o hb)
 clear hb HB6
 go_wp2_with fail
 refine(aJh _).mono ?_
 rintro e V8 ⟨rfl,hb⟩
 have HB8:=aA (bel HB7.o hb)
 clear hb HB7
 go_wp2_with fail
 refine(aO9 _).mono ?_
 rintro e V9 ⟨rfl,hb⟩
 have HB9:=aA (bel HB8.o hb)
 clear hb HB8
 go_wp2_with fail
 go_ret
 exact⟨rfl,HB9.o⟩
end Go.Proofs.Cpl
namespace Go.Proofs.YticnbcfmbhjbgabGreatDoor
open Go.ChangeShapes Go.WideShapes Go.ChangeAt Go.RowKit Lx Pz
variable {cs:List Value} {W:World}
abbrev aEd:List (String × DataW Unit):=Rows.compileNilRow.laid
theorem gIn : Tryz.prog.globalNamed "damask/print.inputs" = some 0 := by kernel_rfl
theorem gOp : Tryz.prog.globalNamed "damask/print.operators" = some 1 := by kernel_rfl
theorem aZ7 : Tryz.prog.globalNamed "internal/strconv.uint64pow10" = some 3 := by kernel_rfl
theorem yIn:(Tryz.prog.globals[0]?).map (·.type)=some 264:=by kernel_rfl
theorem yOp:(Tryz.prog.globals[1]?).map (·.type)=some 296:=by kernel_rfl
theorem bA0:(Tryz.prog.globals[3]?).map (·.type)=some 355:=by kernel_rfl
theorem bAb:Tryz.prog.cellsOf 355=20:=by kernel_rfl
theorem bAa:Tryz.prog.cellsOf 295=2:=by kernel_rfl
theorem aYn:Tryz.prog.cellsOf 9=1:=by kernel_rfl
theorem aZ9:Tryz.prog.cellsOf 3=1:=by kernel_rfl
theorem bAc:Tryz.prog.cellsOf 269=1:=by kernel_rfl
theorem aWr {i:Nat}{v:Value}(h:(cs.drop i).take 1=[v]):cs[i]?=some v:=by
 have:=congrArg (·[0]?) h
 simpa [List.getElem?_take,List.getElem?_drop] using this
theorem aQr {H:Type}{enc:TypeId × Value->H}{base fuel:Nat}{sp:Nat->Bool}{held:Bool}{L:List aL}{p:List MemPlace}
  (h:DataW.trod enc Tryz.prog W base sp held fuel 264 cs=some (.agg (L.map fun s=>.lit (.string s)),p)):∀ i,i < 6->cs[i]?=some (.string (sB (L.getD i []))):=by
 obtain⟨xs,m,-,hx,-,hn,hel⟩:=DataW.trod_array Tryz.underlying264 h
 simp only[Prod.mk.injEq,DataW.agg.injEq] at hx
 intro i hi
 have h1:=hel i hi
 rw[aYn,Nat.mul_one] at h1
 have hlt:i < xs.length:=by omega
 rw[gEg hlt] at h1
 obtain⟨s,e1,e2,-⟩:=DataW.trod_string Tryz.underlying9 h1
 have e3:(xs.map (·.1))[i]?=some (.lit (.string s.data.toList)):=by rw[gEm,gEg hlt,e2];rfl
 rw[<-hx.1,gEm] at e3
 cases hL:L[i]? with
 | none=>rw[hL] at e3;cases e3
 | some l =>
  rw[hL] at e3
  simp only[Option.map_some,Option.some.injEq,DataW.lit.injEq,Lit.string.injEq] at e3
  rw[aWr e1,gdE,hL,oGs,e3]
theorem aQq {H:Type}{enc:TypeId × Value->H}{base fuel:Nat}{sp:Nat->Bool}{held:Bool}{L:List (aL × Nat)}{p:List MemPlace}
  (h:DataW.trod enc Tryz.prog W base sp held fuel 296 cs=some (.agg (L.map fun r=>.agg [.lit (.string r.1),.lit (.i (r.2:Int))]),p)):∀ i,i < 29->cs[i*2]?=some (.string (sB (L.getD i ([],0)).1))/\cs[i*2+1]?=some (.i (L.getD i ([],0)).2):=by
 obtain⟨xs,m,-,hx,-,hn,hel⟩:=DataW.trod_array Tryz.underlying296 h
 simp only[Prod.mk.injEq,DataW.agg.injEq] at hx
 intro i hi
 have h1:=hel i hi
 rw[bAa] at h1
 have hlt:i < xs.length:=by omega
 rw[gEg hlt] at h1
 obtain⟨y0,y1,m2,e2,-,g0,g1⟩:=trod_struct2 Tryz.underlying295 h1
 simp only[aYn,aZ9,List.drop_zero] at g0 g1
 obtain⟨s,a1,a2,-⟩:=DataW.trod_string Tryz.underlying9 g0
 obtain⟨z,b1,b2,-⟩:=DataW.trod_int Tryz.underlying3 g1
 have c0:cs[i*2]?=some (.string s):=by
  have:=congrArg (·[0]?) a1
  simpa [List.getElem?_take,List.getElem?_drop] using this
 have c1:cs[i*2+1]?=some (.i z):=by
  have:=congrArg (·[0]?) b1
  simpa [List.getElem?_take,List.getElem?_drop] using this
 have e3:(xs.map (·.1))[i]?=some (.agg [.lit (.string s.data.toList),.lit (.i z)]):=by rw[gEm,gEg hlt,e2,a2,b2];rfl
 rw[<-hx.1,gEm] at e3
 cases hL:L[i]? with
 | none=>rw[hL] at e3;cases e3
 | some l =>
  rw[hL] at e3
  simp only[Option.map_some,Option.some.injEq,DataW.agg.injEq,List.cons.injEq,DataW.lit.injEq,Lit.string.injEq,Lit.int.injEq,true_and,and_true] at e3
  rw[c0,c1,gdE,hL,oGs,e3.1,e3.2]
  exact⟨congrArg (fun z=>some (Value.string z)) (aBb s).symm,rfl⟩
theorem aYf (h0:laidMetH Tryz.prog aEd W):Gl W:=by
 rw[MakeChecks.laidMetH_plain _ _ _ (by kernel_rfl)] at h0
 have h3 : laidMet Tryz.prog [("internal/strconv.uint64pow10", Rows.laid_internal_strconv_uint64pow10), ("damask/print.operators", Rows.laid_damask_print_operators), ("damask/print.inputs", Rows.laid_damask_print_inputs)] W := h0.tail.tail
 have h4:=h3.tail
 have h5:=h4.tail
 have hT : Lib.TabIs Tryz.prog W "internal/strconv.uint64pow10" .u64 Lib.pow10Tab :=
  Lib.tabIs_of_head aZ7 bA0 Tryz.underlying355 Tryz.underlying269 bAc bAb (show laidMet Tryz.prog (("internal/strconv.uint64pow10", Lib.tabData .u64 Lib.pow10Tab) :: _) W from h3)
 obtain⟨ps,⟨g,t,cs,fuel,p,q,hg,ht,hv,hd,_,_⟩,_⟩:=h4
 obtain rfl:=Option.some.inj (gOp.symm.trans hg)
 obtain rfl:=Option.some.inj (yOp.symm.trans ht)
 obtain⟨ps2,⟨g2,t2,cs2,fuel2,p2,q2,hg2,ht2,hv2,hd2,_,_⟩,_⟩:=h5
 obtain rfl:=Option.some.inj (gIn.symm.trans hg2)
 obtain rfl:=Option.some.inj (yIn.symm.trans ht2)
 rw[show Rows.laid_damask_print_operators=(.agg (nK.map fun r=>.agg [.lit (.string r.1),.lit (.i (r.2:Int))]):DataW Unit) from by kernel_rfl] at hd
 rw[show Rows.laid_damask_print_inputs=(.agg (xS.map fun s=>.lit (.string s)):DataW Unit) from by kernel_rfl] at hd2
 have r1:=aQq hd
 have r2:=aQr hd2
 refine⟨fun k hk=>?_,fun k hk=>⟨?_,?_⟩,hT⟩
 ·have:=World.var?_cell hg2 hv2 k
  rw[this,<-Array.getElem?_toList]
  exact r2 k hk
 ·have:=World.var?_cell hg hv (k*2)
  rw[this,<-Array.getElem?_toList]
  exact(r1 k hk).1
 ·have:=World.var?_cell hg hv (k*2+1)
  rw[this,<-Array.getElem?_toList]
  exact(r1 k hk).2
end Go.Proofs.YticnbcfmbhjbgabGreatDoor
namespace Go.Proofs.YticnbcfmbhjbgabGreatDoor
open Go.ChangeShapes Go.WideShapes Go.ChangeAt Go.RowKit
theorem aMf (os:Os)(args:Array Value):laidMetH Tryz.prog aEd ((World.doorLaid Tryz.prog 400 os).forCall (fun _ _=>0) ⟨#[],args,[]⟩).memory :=
 laidMetH_of_parts3 (fuel:=8) (laidMet_of_run' 8 (by kernel_rfl) (by kernel_rfl)) (by kernel_rfl) (by kernel_rfl)
theorem sF (os:Os)(started:os.Started)(H:Type)(enc:TypeId × Value->H) :
  ReturnsInHanded {} Tryz.checked os 3 .any (fun w args=>(Rows.compileNilSpec.pre enc Tryz.prog Tryz.f3 [] false w args/\laidMetH Tryz.prog aEd w)/\sizedMet enc Tryz.prog Tryz.f3 (OpenSpec.ofChange Rows.compileNilSpec) false w args)
   (Rows.compileNilSpec.post enc Tryz.prog Tryz.f3 false true false false):=by
 refine returnsInHanded_of_change_and (C:=Tryz.checked) (X:=fun w _=>laidMetH Tryz.prog aEd w) (fun _ _ _ hh h=>h.of_heap hh) bAq started (by kernel_rfl) Tryz.func3
  (ChangeSpec.witness_shaped (enc:=enc) (C:=Tryz.checked) (os:=os) (X:=fun w _=>laidMetH Tryz.prog aEd w) false (World.doorLaid Tryz.prog 400 os) #[.agg #[.i 0,.i 0,.i 0,.slice none 0 0]] 8 rfl (World.shaped_of_RefB (by kernel_rfl) (by kernel_rfl)) (by kernel_rfl) (by kernel_rfl) (by kernel_rfl) (aMf os _)) ?_
 intro W base args ds gs before hval0 hW hcnd hsz0 hL _
 have hval:∀(j:Nat) t v,Tryz.f3.params[j]?=some t->args[j]?=some v->Value.okWide Tryz.prog W .any base t v:=hval0
 have hW':=hW
 obtain⟨p,q,hA0,hV,rfl,hfz,hnd⟩:=hW
 have hA:DataW.TrodAll enc Tryz.prog W 0 (fun _=>true) true Tryz.f3.params.toList args.toList ds p:=hA0
 rw[Tryz.params3] at hA hval
 obtain⟨v0,vs0,d0,ds0,p0,q0,hargs,rfl,rfl,h0,r0⟩:=trodAll_cons hA
 obtain⟨rfl,rfl,rfl⟩:=trodAll_nil r0
 obtain rfl:args=#[v0]:=by cases args;simp_all
 obtain⟨rfl,rfl⟩:=trodVars_none hV
 have k0:=h0
 have lt0:∀ x ∈ p0,x.block < W.heap.size:=by obtain⟨m,hm⟩:=k0;exact DataW.trod_lt m _ _ _ hm
 obtain⟨a0,b0,c0,sa0,sn0,sc0,zs0,rfl,hZ0⟩:=aEu (hval 0 24 v0 rfl rfl) h0
 clear hA0 hval0
 refine(Cpl.aN2 ⟨a0,b0,c0,zs0⟩ sa0 sn0 sc0 (aYf hL)).mono fun e W' ⟨he,bel⟩=>?_
 subst he
 exact⟨_,rfl,_,_,_,[],_,[],hW',trodAll_mk1 (shut_bool Tryz.underlying4 _),trodAll_cons_mk (Below.trod aNe (by kernel_rfl) (of_decide_eq_true (by kernel_rfl)) k0 bel lt0) (trodAll_mk0),rfl,bel.frame _,fun h=>by cases h⟩
end Go.Proofs.YticnbcfmbhjbgabGreatDoor
