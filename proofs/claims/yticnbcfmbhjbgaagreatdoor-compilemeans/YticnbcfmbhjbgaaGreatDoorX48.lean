import Derived.Stop.LaidErr
import Derived.LaidMore
import Derived.Test.YticnbcfmbhjbgaaGreatDoorCards
import Derived.Test.YticnbcfmbhjbgaaGreatDoorTie
import Derived.Test.YticnbcfmbhjbgaaGreatDoorX43
import Derived.Test.YticnbcfmbhjbgaaGreatDoorX47
import Derived.Test.YticnbcfmbhjbgaaGreatDoorX31
set_option maxRecDepth 100000
set_option maxHeartbeats 32000000
set_option linter.unusedVariables false
namespace Go.Proofs.Cpl
section
open Go.RowKit Go.IntWalk Lx Pz
open YticnbcfmbhjbgaaGreatDoor (Wd dQ Fits dB eY vH aB bel aD aA jZ oW mxR rY oQ oP jJ pF Tx Iz Nz bJ rootOf Dec pO iK whole aRe Gl CkP lJ vF gF aFu aBq sP aA5 qD lS nN bs dN iB sB)
open Cde (In i0 ia kd cd Ins aC aP dL lH)
open Vfy (aW)
open Pss (psF fV rE rnE rnI rnU rnK okP)
def TrT (s:ByteArray)(NM:List aM)(es:List E)(ex:E):Prop:=s.size<=1024/\∃ A,ak (bs s)=some A/\GP [] [] A (NM,es,ex)
theorem TrT.parse {s : ByteArray} {NM : List aM} {es : List E} {ex : E} (h : TrT s NM es ex) (w : World) : Calls Tryz.prog 17 #[.string s] w fun e W' => ∃ na nc ba bc da dc, Dec NM (iA es 0) (bJ es ex) (rootOf es ex) es ex ∧
      e = .returned (.tuple #[.agg (eY (.slice na es.length nc) (.slice ba es.length bc) (.slice da (bZ es + ex.size) dc) (.i (rootOf es ex))), .i 0]) ∧ Tx W' na es.length nc NM ∧ Iz W' ba es.length bc (iA es 0) ∧
      Nz W' da (bZ es + ex.size) dc (bJ es ex) ∧ Below w.heap.size w W' := by
  obtain ⟨hl, A, ha, hg⟩ := h
  exact aBq ha hl hg w
theorem aHq {s:ByteArray}(h:∀ NM es ex,¬TrT s NM es ex)(w:World):Calls Tryz.prog 17 #[.string s] w fun e W'=>e=.returned (.tuple #[.agg vH,.i 10])/\Below w.heap.size w W':=by
 refine(sP s w).mono ?_
 rintro e W1 (⟨h1,h2,-⟩|⟨T,NM,es,ex,na,nc,ba,bc,da,dc,hT,hA,h3,h4,rfl,h6,h7,h8,h9⟩)
 ·exact⟨h1,h2⟩
 ·refine absurd ⟨?_,T.map ab,(aZ7 hT).1,(hA _).1 rfl⟩ (h NM es ex)
  unfold tks at hT
  split at hT
  ·cases hT
  ·rw[dN] at *
   omega
theorem aRd (s:ByteArray):(∀ NM es ex,¬TrT s NM es ex)\/∃ NM es ex,TrT s NM es ex:=by
 by_cases h:∃ NM es ex,TrT s NM es ex
 ·exact .inr h
 ·exact .inl fun NM es ex hh=>h ⟨NM,es,ex,hh⟩
theorem aMg (f d out:Int){a:Option Addr}{n cap:Nat}{L:List In}{W:World}(hL:Ins W a n cap L)(h:aW f d L out=0){I:List In}{u:Int}(hI:psF f d fV (L,out)=(I,u)) :
  Calls Tryz.prog 32 #[.agg (cd f d a n cap out)] W fun e W'=>∃ a' c',e=.returned (.tuple #[.agg (cd f d a' I.length c' u),.i 0])/\W'.ownsRow W.heap.size 132 6 (.slice a' I.length c') I.length (dL I)/\Below W.heap.size W W':=by
 refine(Pss.aMf f d out hL).mono ?_
 rintro e W' ⟨a',c',rfl,hO,hb⟩
 have h1:rnE f d L out fV=0:=by rw[rnE,if_pos (by decide)];exact h
 have e1:rnI f d L out fV=I:=by rw[rnI,if_pos h1,hI]
 rw[e1] at hO
 exact⟨a',c',by rw[e1];simp[rnK,rnU,h1,hI],hO,hb⟩
def txP (NM:List aM)(es:List E)(ex:E):ByteArray:=if 1024 < (whole NM es ex).length then⟨#[]⟩ else sB (whole NM es ex)
theorem aLk {W:World}{na ba da:Option Addr}{nl nc bl bc dl dc:Nat}{root:Int}{NM:List aM}{BS:List Int}{NS:List Nd}(hX:Tx W na nl nc NM)(hB:Iz W ba bl bc BS)(hN:Nz W da dl dc NS)(hG:Gl W){es:List E}{ex:E}(hD:Dec NM BS NS root es ex) :
  Calls Tryz.prog 33 #[.agg (eY (.slice na nl nc) (.slice ba bl bc) (.slice da dl dc) (.i root))] W fun e W'=>(∃ x,e=.returned (.tuple #[.string (txP NM es ex),.i x]))/\Below W.heap.size W W':=by
 refine(aFu hX hB hN hG hD).mono ?_
 rintro e W' ⟨rfl,hb⟩
 refine⟨?_,hb⟩
 unfold txP
 split
 ·exact⟨_,rfl⟩
 ·exact⟨_,rfl⟩
end
section
open Go.RowKit Go.IntWalk Lx Pz
open YticnbcfmbhjbgaaGreatDoor (Wd dQ Fits dB eY vH aB bel aD aA jZ oW mxR rY oQ oP jJ pF Tx Iz Nz bJ rootOf Dec pO iK whole aRe Gl CkP lJ vF gF qD lS nN bs sB)
open Cde (In i0 ia kd cd Ins aC aP dL lH)
open Knd (May)
open Fld (bD)
open Vfy (aW)
open Pss (psF fV aDi)
structure Cx (W V:World)(bt:Nat)(kv tv:Array Value):Prop where
 k:aB V W.heap.size 23 kv
 t:aB V bt 50 tv
 lo:Below W.heap.size W V
theorem Cx.below {W V V':World}{bt:Nat}{kv tv:Array Value}(h:Cx W V bt kv tv)(hb:Below V.heap.size V V'):Cx W V' bt kv tv:=⟨h.k.below hb,h.t.below hb,bel h.lo hb⟩
theorem yA (f d:Int){s:ByteArray}(h:∀ NM es ex,¬TrT s NM es ex)(W:World) :
  Calls Tryz.prog 9 #[.string s,.agg (dB f d)] W fun e W'=>e=.returned (.tuple #[.pointer none,.i (if May f d then 10 else 1)])/\Below W.heap.size W W':=by
 have HK:=aA fun V=>lH f d V
 have HP:=aA fun V=>aHq h V
 have HK0:=aA (aB.new W 23 (dB f d))
 have HB0:=aA (aD W (.cells (dB f d) 23))
 clear h
 obtain⟨k0,k1⟩:=aP HK0.o
 by_cases hm:May f d
 ·rw[if_pos hm] at HK ⊢
  clear hm
  go_enter Tryz.func9,Tryz.ntmps9
  go_wp2_with fail
  refine(HK.o _).mono ?_
  rintro e V1 ⟨rfl,hb⟩
  have HB1:=aA (bel HB0.o hb)
  clear hb HK k0 k1
  go_wp2_with fail
  refine(HP.o _).mono ?_
  rintro e V2 ⟨rfl,hb⟩
  have HB2:=aA (bel (bel HB1.o hb) (aD V2 (.cells vH 50)))
  clear hb HP
  go_wp2_with fail
  exact bPr (v:=.tuple #[.pointer none,.i 10]) (by simp[results,Tryz.results9,go_sem]) rfl ⟨rfl,HB2.o⟩
 ·rw[if_neg hm] at HK ⊢
  clear hm
  go_enter Tryz.func9,Tryz.ntmps9
  go_wp2_with fail
  refine(HK.o _).mono ?_
  rintro e V1 ⟨rfl,hb⟩
  have HB1:=aA (bel HB0.o hb)
  clear hb HK k0 k1
  go_wp2_with fail
  exact bPr (v:=.tuple #[.pointer none,.i 1]) (by simp[results,Tryz.results9,go_sem]) rfl ⟨rfl,HB1.o⟩
def CpA (f d:Int)(NM:List aM)(es:List E)(ex:E)(W:World)(e:Ending)(W':World):Prop :=
 Below W.heap.size W W'/\(
  (jZ f d NM (iA es 0) (bJ es ex) (rootOf es ex)≠0/\e=.returned (.tuple #[.pointer none,.i (jZ f d NM (iA es 0) (bJ es ex) (rootOf es ex))])) \/
  (jZ f d NM (iA es 0) (bJ es ex) (rootOf es ex)=0/\∃ g J u,psF f d fV ((pF f d (iA es 0) (bJ es ex)).2,(pF f d (iA es 0) (bJ es ex)).1.getD (rootOf es ex).toNat 0)=(J,u)/\aW f d J u=0/\e=.returned (.tuple #[.pointer (some ⟨g,0,none⟩),.i 0])/\Pg W' g f d J u (txP NM es ex) (oW (bJ es ex))))
theorem sK (f d:Int){s:ByteArray}{NM:List aM}{es:List E}{ex:E}(h:TrT s NM es ex){W:World}(hG:Gl W) :
  Calls Tryz.prog 9 #[.string s,.agg (dB f d)] W (CpA f d NM es ex W):=by
 have HK:=aA fun V=>lH f d V
 have HP:=aA fun V=>h.parse V
 have HK0:=aA (aB.new W 23 (dB f d))
 have HB0:=aA (aD W (.cells (dB f d) 23))
 have HG:=aA hG
 clear h hG
 obtain⟨k0,k1,-,-⟩:=YticnbcfmbhjbgaaGreatDoor.aP HK0.o
 by_cases hm:May f d
 ·rw[if_pos hm] at HK
  go_enter Tryz.func9,Tryz.ntmps9
  go_wp2_with fail
  refine(HK.o _).mono ?_
  rintro e V1 ⟨rfl,hb⟩
  have HB1:=aA (bel HB0.o hb)
  have HK1:=aA (HK0.o.below hb)
  clear hb HK k0 k1 HK0 HB0
  go_wp2_with fail
  refine(HP.o _).mono ?_
  rintro e V2 ⟨na,nc,ba,bc,da,dc,hD,rfl,hX,hI,hN,hb⟩
  have hb2:=aD V2 (.cells (eY (.slice na es.length nc) (.slice ba es.length bc) (.slice da (bZ es+ex.size) dc) (.i (rootOf es ex))) 50)
  have HD:=aA hD
  have HX:=aA (hX.later hb2)
  have HI:=aA (hI.later hb2)
  have HN:=aA (hN.later hb2)
  have HC2:Hid (Cx W (V2.alloc (.cells (eY (.slice na es.length nc) (.slice ba es.length bc) (.slice da (bZ es+ex.size) dc) (.i (rootOf es ex))) 50)) V2.heap.size (dB f d) (eY (.slice na es.length nc) (.slice ba es.length bc) (.slice da (bZ es+ex.size) dc) (.i (rootOf es ex)))) :=
   aA ⟨(HK1.o.below hb).below hb2,aB.new _ _ _,bel (bel HB1.o hb) hb2⟩
  obtain⟨k0,k1,-,-⟩:=YticnbcfmbhjbgaaGreatDoor.aP (HK1.o.below hb)
  have z0:=(HK1.o.below hb).lt
  have hs:=qD hD.ok
  have HCk:=aA (gF f d (root:=rootOf es ex) HX.o HI.o HN.o hs)
  have HS:=aA hs
  clear hD hX hI hN hb hb2 HK1 HB1 HP hs
  generalize hnl0:es.length=nl at *
  generalize hdl:bZ es+ex.size=dl at *
  generalize hrt:rootOf es ex=root at *
  generalize hbs:iA es 0=BS at *
  generalize hns:bJ es ex=NS at *
  go_wp2_with fail
  generalize V2.heap.size=bt at *
  refine HCk.o.mono ?_
  rintro e V3 (⟨hc,rfl,hb⟩|⟨hc,g,rfl,-,hS,hb⟩)
  ·obtain⟨ce,hce⟩:∃ ce,jZ f d NM BS NS root=ce:=⟨_,rfl⟩
   have hr:(ce != 0)=true:=by rw[<-hce];simpa using hc
   have HE:Hid (∀ e W',Below W.heap.size W W'->e=.returned (.tuple #[.pointer none,.i ce])->CpA f d NM es ex W e W'):=aA fun e W' hb he=>⟨hb,.inl ⟨by rw[hbs,hns,hrt];exact hc,by rw[hbs,hns,hrt,hce];exact he⟩⟩
   rw[hce]
   have HB3:=aA (bel (bel HC2.o.lo hb) (aD V3 (.cells jJ 55)))
   clear hc hb hce HC2 HCk k0 k1 z0 hbs hns hrt
   go_wp2_with fail
   exact bPr (v:=.tuple #[.pointer none,.i ce]) (by simp[results,Tryz.results9,go_sem]) rfl (HE.o _ _ HB3.o rfl)
  ·have HC0:=aA hc
   have hb2:=aD V3 (.cells #[.slice (some ⟨g,0,none⟩) NS.length NS.length,.i (oW NS),.i (mxR (rY BS NS []))] 55)
   generalize mxR (rY BS NS [])=mx at *
   generalize hco:oW NS=co at *
   have HC3:=aA ((HC2.o.below hb).below hb2)
   have HX3:=aA ((HX.o.later hb).later hb2)
   have HI3:=aA ((HI.o.later hb).later hb2)
   have HN3:=aA ((HN.o.later hb).later hb2)
   have HR3:=aA (aB.new V3 55 #[.slice (some ⟨g,0,none⟩) NS.length NS.length,.i co,.i mx])
   have HLw:=aA (vF f d (root:=root) HX3.o HI3.o HN3.o HS.o)
   obtain⟨k0,k1,-,-⟩:=YticnbcfmbhjbgaaGreatDoor.aP (HC2.o.below hb).k
   obtain⟨t0,t1,t2,t3⟩:=aC (HC2.o.below hb).t
   have z1:=(HC2.o.below hb).k.lt
   have z2:=(HC2.o.below hb).t.lt
   clear hb hb2 hS HC2 HX HI HN HCk hm
   go_wp2_with fail
   generalize V3.heap.size=br at *
   refine HLw.o.mono ?_
   rintro e V4 ⟨F,D,I,o,ca,cc,rfl,hIn,-,hI1,hb⟩
   obtain⟨rfl,rfl,hIl,hol⟩:=hI1 hc
   obtain⟨t1',-⟩:=lJ hc hIl hol
   obtain⟨⟨J,u⟩,hJ⟩:∃ x,psF F D fV (I,o)=x:=⟨_,rfl⟩
   have hk:=aDi (f:=F) (d:=D) fV (I,o) t1'
   rw[hJ] at hk
   rw[hc]
   have hb2:=aD V4 (.cells (cd F D ca I.length cc o) 33)
   have HZ:=aA (aMg F D o (hIn.later hb2) t1' hJ)
   have HJ:=aA hJ
   have HK:=aA hk
   have HIl:=aA hIl
   have HOl:=aA hol
   have HC4:=aA (HC3.o.below hb)
   have HX4:=aA (HX3.o.later hb)
   have HI4:=aA (HI3.o.later hb)
   have HN4:=aA (HN3.o.later hb)
   have HR4:=aA (HR3.o.below hb)
   have HD4:=aA (aB.new V4 33 (cd F D ca I.length cc o))
   have HB4:=aA hb2
   clear hIn hI1 hb hb2 hIl hol t1' hJ hk hc HC3 HX3 HI3 HN3 HR3 HLw k0 k1 t0 t1 t2 t3 z1 z2
   go_wp2_with fail
   refine HZ.o.mono ?_
   rintro e V5 ⟨a',c',rfl,hO,hb⟩
   have hd5:=HD4.o.below hb
   obtain⟨c0,c1,c2,c3⟩:=aC hd5
   obtain⟨f0,f1,f2,f3⟩:=bD hd5
   have hlt:=hd5.lt
   have hO6:=nN hO hd5 (by decide) (.i F) (.i D) (.slice a' J.length c') (.i u)
   obtain⟨hp,hpb⟩:=lS hd5 (w:=V4) (bel HB4.o hb) (nLr _) (.i F) (.i D) (.slice a' J.length c') (.i u)
   obtain⟨V6,hV6⟩:∃ V6,(((V5.setCell ⟨V4.heap.size,0,none⟩ (.i F)).setCell ⟨V4.heap.size,1,none⟩ (.i D)).setCell ⟨V4.heap.size,2,none⟩ (.slice a' J.length c')).setCell ⟨V4.heap.size,3,none⟩ (.i u)=V6:=⟨_,rfl⟩
   rw[hV6] at hO6 hp hpb
   obtain⟨a9,c9,e2,hJn,-⟩:=Ins.of_owns hO6
   cases e2
   have HJn:=aA hJn
   have HC6:=aA (HC4.o.below hpb)
   have HR6:=aA (HR4.o.below hpb)
   have HD6:=aA hp
   have HPr:=aA (aLk (HX4.o.later hpb) (HI4.o.later hpb) (HN4.o.later hpb) (HG.o.later HC6.o.lo) HD.o)
   obtain⟨t0,t1,t2,t3⟩:=aC HC6.o.t
   clear hO hb hd5 hO6 hp hpb hJn HZ HC4 HX4 HI4 HN4 HR4 HD4 HB4 HG
   go_wp2_with fail
   generalize V4.heap.size=bk at *
   refine HPr.o.mono ?_
   rintro e V7 ⟨⟨px,rfl⟩,hb⟩
   have HC7:=aA (HC6.o.below hb)
   obtain⟨c0,c1,c2,c3⟩:=aC (HD6.o.below hb)
   obtain⟨r0,r1,r2,-,-,-⟩:=YticnbcfmbhjbgaaGreatDoor.iJ (HR6.o.below hb)
   have HRd:=aA (aLo F D u (txP NM es ex) co (HJn.o.later hb))
   clear hb HC6 HR6 HD6 HPr HJn t0 t1 t2 t3
   go_wp2_with fail
   refine HRd.o.mono ?_
   rintro e V8 ⟨hb,⟨hn,-⟩|⟨-,g8,rfl,hP⟩⟩
   ·exact absurd HK.o hn
   go_wp2_with fail
   exact bPr (v:=.tuple #[.pointer (some ⟨g8,0,none⟩),.i 0]) (by simp[results,Tryz.results9,go_sem]) rfl ⟨bel HC7.o.lo hb,.inr ⟨by rw[hbs,hns,hrt];exact HC0.o,g8,J,u,by rw[hbs,hns,hrt,<-HIl.o,<-HOl.o];exact HJ.o,HK.o,rfl,by rw[hns,hco];exact hP⟩⟩
 ·rw[if_neg hm] at HK
  have hce:jZ f d NM (iA es 0) (bJ es ex) (rootOf es ex)=1:=by unfold YticnbcfmbhjbgaaGreatDoor.jZ;rw[if_pos hm]
  have HE:Hid (∀ e W',Below W.heap.size W W'->e=.returned (.tuple #[.pointer none,.i 1])->CpA f d NM es ex W e W'):=aA fun e W' hb he=>⟨hb,.inl ⟨by rw[hce];decide,by rw[hce];exact he⟩⟩
  clear hm hce
  go_enter Tryz.func9,Tryz.ntmps9
  go_wp2_with fail
  refine(HK.o _).mono ?_
  rintro e V1 ⟨rfl,hb⟩
  have HB1:=aA (bel HB0.o hb)
  clear hb HK k0 k1
  go_wp2_with fail
  exact bPr (v:=.tuple #[.pointer none,.i 1]) (by simp[results,Tryz.results9,go_sem]) rfl (HE.o _ _ HB1.o rfl)
end
section
open Go.RowKit Go.IntWalk Lx Pz
open Go.Lib (decDigits itoa)
open YticnbcfmbhjbgaaGreatDoor (aB bel aD aA jZ oW pF bJ rootOf whole Gl bs dN iB sB aMp fP Fo aNy xC aMr aV4 aV5 aEe aEf aGq)
open Cde (In i0 kd cd Ins dL)
open Vfy (aW)
open Pss (psF fV)
def ayT:aM:=[40,112,40,45,49,44,48,41,43,112,40,45,49,44,48,41,41,47,50]
abbrev ayP:List Tk:=[.word wP,.lp,.op 5 9,.num 1,.comma,.num 0,.rp]
def ayK:List Tk:=(.lp::((ayP++.op 5 8::ayP)++[.rp]))++.op 6 11::[.num 2]
def ayE:E:=.bin 11 (.bin 8 (.leaf (lf 3 0 0 2 (-1) 0)) (.leaf (lf 3 0 0 2 (-1) 0))) (.leaf (lf 1 2 0 0 0 0))
theorem aZ8:ak ayT=some ayK:=by
 have d1:∀ d:Nat,d < 10->∀ r,Fo r->ak (UInt8.ofNat (48+d)::r)=(ak r).map ([.num d]++·):=fun d hd r hr=>by
  have:=aMp (u:=d) (by omega) r hr
  rwa[fP hd] at this
 have n1c:∀ r,ak (49::44::r)=(ak (44::r)).map ([.num 1]++·):=fun r=>d1 1 (by decide) _ (xC (by decide) r)
 have n0r:∀ r,ak (48::41::r)=(ak (41::r)).map ([.num 0]++·):=fun r=>d1 0 (by decide) _ (xC (by decide) r)
 have n2:ak [50]=(ak []).map ([.num 2]++·):=d1 2 (by decide) [] aNy
 have pl:∀ r,ak (112::40::r)=(ak (40::r)).map ([.word wP]++·):=fun r=>aMr (x:=wP) (by decide) (40::r) (xC (by decide) r)
 have lp:∀ r,ak (40::r)=(ak r).map ([.lp]++·):=fun r=>aV4 r trivial
 have rp:∀ r,ak (41::r)=(ak r).map ([.rp]++·):=fun r=>aV5 r trivial
 have cm:∀ r,ak (44::r)=(ak r).map ([.comma]++·):=fun r=>aEe r trivial
 have mi:∀ r,ak (45::r)=(ak r).map ([.op 5 9]++·):=fun r=>aEf r trivial
 have pp:∀ r,ak (43::r)=(ak r).map ([.op 5 8]++·):=fun r=>aGq 43 _ (by decide) (by decide) (by decide) (by decide) (by decide) (by decide) r trivial
 have dv:∀ r,ak (47::r)=(ak r).map ([.op 6 11]++·):=fun r=>aGq 47 _ (by decide) (by decide) (by decide) (by decide) (by decide) (by decide) r trivial
 unfold ayT
 simp only[pl,n1c,n0r,n2,lp,rp,cm,mi,pp,dv,aWn,Option.map_some]
 rfl
theorem bAb:GP [] [] ayK ([],[],ayE):=by
 refine GP.last ?_
 have a8:G [] 8 ayP (.leaf (lf 3 0 0 2 (-1) 0)):=G.place (s:=wP) (.inl rfl) rfl
 have h2:G [] 8 [.num 2] (.leaf (lf 1 2 0 0 0 0)):=G.num 2
 have s6:G [] 6 (ayP++.op 5 8::ayP) _:=G.bin (k:=5) (o:=8) (by omega) (YticnbcfmbhjbgaaGreatDoor.G.ups a8 (by decide) (by decide)) (YticnbcfmbhjbgaaGreatDoor.G.ups a8 (by decide) (by decide))
 have p8:G [] 8 (.lp::((ayP++.op 5 8::ayP)++[.rp])) _:=G.par (YticnbcfmbhjbgaaGreatDoor.G.ups s6 (by decide) (by decide))
 exact YticnbcfmbhjbgaaGreatDoor.G.ups (G.bin (k:=6) (o:=11) (by omega) (YticnbcfmbhjbgaaGreatDoor.G.ups p8 (by decide) (by decide)) (YticnbcfmbhjbgaaGreatDoor.G.ups h2 (by decide) (by decide))) (by omega) (by omega)
theorem bAc:TrT (sB ayT) [] [] ayE:=⟨by decide,ayK,by rw[iB];exact aZ8,bAb⟩
theorem aZ9:jZ 0 8 [] (iA [] 0) (bJ [] ayE) (rootOf [] ayE)=0:=by decide +kernel
theorem bAa:oW (bJ [] ayE)=8:=by decide +kernel
theorem aSd:(psF 0 8 fV ((pF 0 8 (iA [] 0) (bJ [] ayE)).2,(pF 0 8 (iA [] 0) (bJ [] ayE)).1.getD (rootOf [] ayE).toNat 0)).1.length=3:=by decide +kernel
theorem aMy:whole [] [] ayE=ayT:=by
 have d2:itoa 2=[50]:=by unfold itoa;rw[if_neg (by decide),show (2:Int).toNat=2 from rfl,fP (by decide)];rfl
 have d0:itoa 0=[48]:=by unfold itoa;rw[if_neg (by decide),show (0:Int).toNat=0 from rfl,fP (by decide)];rfl
 have dm:itoa (-1)=[45,49]:=by unfold itoa;rw[if_pos (by decide),show (-1:Int).natAbs=1 from rfl,fP (by decide)];rfl
 unfold YticnbcfmbhjbgaaGreatDoor.whole ayE ayT
 simp[YticnbcfmbhjbgaaGreatDoor.ltT,dI,wH,vL,brk,rkE,lfk,ork,pG,oO,d2,d0,dm]
theorem bAd:txP [] [] ayE=sB ayT:=by
 unfold txP
 rw[aMy,if_neg (by decide)]
theorem aKt (f d o:Int)(a:Option Addr)(n c:Nat)(w:World):(Instr.field 33 (.agg (cd f d a n c o)) 1).run Tryz.prog w=.ok (.slice a n c) w:=by
 simp[Instr.field,asAgg,go_sem]
theorem aGx {W:World}(hG:Gl W):Calls Tryz.prog 11 #[] W fun e w'=>e=.returned (.bool true)/\Below W.heap.size W w':=by
 have HC:=aA (fun(V:World) (hb:Below W.heap.size W V)=>sK 0 8 bAc (hG.later hb))
 go_enter Tryz.func11,Tryz.ntmps11
 go_wp2_with fail
 refine(HC.o _ (Below.refl _ _)).mono ?_
 rintro e V1 ⟨hb,⟨hc,-⟩|⟨-,g,J,u,hJ,hv,rfl,hP⟩⟩
 ·exact absurd aZ9 hc
 have hl:=aSd
 rw[hJ] at hl
 rw[bAd,bAa] at hP
 have HP:=aA hP
 have HCo:=aA (aNe hP hv)
 have HB1:=aA hb
 clear hb hJ hv hP HC
 go_wp2_with fail
 refine(iY HP.o).mono ?_
 rintro e V2 ⟨rfl,rfl⟩
 go_wp2_with fail
 refine HCo.o.mono ?_
 rintro e V3 ⟨a',c',rfl,-,hb⟩
 have HP3:=aA (HP.o.later hb)
 have HB3:=aA (bel HB1.o hb)
 rw[hl]
 have hf:=aKt 0 8 u a' 3 c'
 clear hb HP HCo
 go_wp2_with fail
 refine(aQ5 HP3.o).mono ?_
 rintro e V4 ⟨rfl,rfl⟩
 go_wp2_with fail
 go_ret
 exact⟨rfl,HB3.o⟩
end
open Go.RowKit Go.IntWalk Lx Pz
open YticnbcfmbhjbgaaGreatDoor (Wd dQ dB eY vH aB bel aD aA jZ oW bJ rootOf Dec Gl qD Tx Iz Nz evE evV aB0)
open Cde (In fZ aC)
open Vfy (aW)
open Vmm (rT)
open Chn (hrV)
structure Kw (W V:World)(kv wv:Array Value):Prop where
 k:aB V W.heap.size 23 kv
 w:aB V (W.heap.size+1) 26 wv
 lo:Below W.heap.size W V
theorem Kw.below {W V V':World}{kv wv:Array Value}(h:Kw W V kv wv)(hb:Below V.heap.size V V'):Kw W V' kv wv:=⟨h.k.below hb,h.w.below hb,bel h.lo hb⟩
theorem Kw.new (W:World)(kv wv:Array Value):Kw W ((W.alloc (.cells kv 23)).alloc (.cells wv 26)) kv wv:=by
 refine⟨(aB.new W 23 kv).alloc (.cells wv 26),?_,bel (aD W (.cells kv 23)) (aD (W.alloc (.cells kv 23)) (.cells wv 26))⟩
 have:=aB.new (W.alloc (.cells kv 23)) 26 wv
 simp only[wSa] at this
 exact this
theorem aEl (f d:Int)(s:ByteArray)(v:Wd){pa:Option Addr}{pl pc:Nat}{W:World}(hP:Knd.Ints W pa pl pc v.ps)(hG:Gl W) :
  Calls Tryz.prog 6 #[.string s,.agg (dB f d),.agg (dQ v pa pl pc)] W fun e w'=>e=.returned (.bool true)/\Below W.heap.size W w':=by
 have HQ0:=aA (Kw.new W (dB f d) (dQ v pa pl pc))
 have HG:=aA hG
 have HPI:=aA hP
 have HA:=aA fun(V:World) (hb:Below W.heap.size W V)=>aGx (hG.later hb)
 clear hG hP
 obtain⟨k0,k1,-,-⟩:=YticnbcfmbhjbgaaGreatDoor.aP HQ0.o.k
 have hno:∀ er:Int,er≠0->(∀ V:World,Below W.heap.size W V->Calls Tryz.prog 9 #[.string s,.agg (dB f d)] V fun e W'=>e=.returned (.tuple #[.pointer none,.i er])/\Below V.heap.size V W')->Calls Tryz.prog 6 #[.string s,.agg (dB f d),.agg (dQ v pa pl pc)] W fun e w'=>e=.returned (.bool true)/\Below W.heap.size W w':=by
  intro er h0 hC
  have HC:=aA hC
  have hr:(er != 0)=true:=by simpa using h0
  clear hC h0
  go_enter Tryz.func6,Tryz.ntmps6
  go_wp2_with fail
  refine(HC.o _ HQ0.o.lo).mono ?_
  rintro e V1 ⟨rfl,hb⟩
  have HB1:=aA (bel HQ0.o.lo hb)
  clear hb HC HQ0 k0 k1
  go_wp2_with fail
  refine(HA.o _ HB1.o).mono ?_
  rintro e V2 ⟨rfl,hb⟩
  have HB2:=aA (bel HB1.o hb)
  clear hb HB1
  go_wp2_with fail
  refine(HA.o _ HB2.o).mono ?_
  rintro e V3 ⟨rfl,hb⟩
  have HB3:=aA (bel HB2.o hb)
  clear hb HB2
  go_wp2_with fail
  go_ret
  exact⟨rfl,HB3.o⟩
 rcases aRd s with h|⟨NM,es,ex,h⟩
 ·by_cases hm:Knd.May f d
  ·exact hno 10 (by decide) fun V hb=>(yA f d h V).mono fun e W' h=>by rw[if_pos hm] at h;exact h
  ·exact hno 1 (by decide) fun V hb=>(yA f d h V).mono fun e W' h=>by rw[if_neg hm] at h;exact h
 ·by_cases hc:jZ f d NM (iA es 0) (bJ es ex) (rootOf es ex)=0
  ·have HC:=aA (fun(V:World) (hb:Below W.heap.size W V)=>sK f d h (HG.o.later hb))
   have HP:=aA fun V=>h.parse V
   have HE:=aA hc
   clear h hc hno
   go_enter Tryz.func6,Tryz.ntmps6
   go_wp2_with fail
   refine(HC.o _ HQ0.o.lo).mono ?_
   rintro e V1 ⟨hb,⟨hn,-⟩|⟨-,g,J,u,hJ,hv,rfl,hPg⟩⟩
   ·exact absurd HE.o hn
   have HQ1:=aA (HQ0.o.below hb)
   have HPg1:=aA hPg
   have HV:=aA fun(V:World) (hP:Pg V g f d J u (txP NM es ex) (oW (bJ es ex))) (hb:Below W.heap.size W V)=>kU v hP (HPI.o.later hb) hv
   have HQk:=aA fun(V:World) (hP:Pg V g f d J u (txP NM es ex) (oW (bJ es ex))) (hb:Below W.heap.size W V)=>aLm v hP (HPI.o.later hb) hv
   obtain⟨n,hMs⟩:=aOx HE.o v hJ
   rw[hMs.a] at HV
   rw[hMs.b] at HQk
   have HM:=aA (And.intro hMs.p (And.intro hMs.q hMs.z))
   have HEv:=aA fun(V:World) (NN:List aM) (na ba da:Option Addr) (nl nc bl bc dl dc:Nat) (hx:Tx V na nl nc NM) (hi:Iz V ba bl bc (iA es 0)) (hn:Nz V da dl dc (bJ es ex)) hs (hb:Below W.heap.size W V)=>aB0 f d v (root:=rootOf es ex) hx hi hn hs (HPI.o.later hb)
   clear hb hJ hv hPg hMs HC HQ0 k0 k1 HE
   generalize evE f d v NM (iA es 0) (bJ es ex) (rootOf es ex)=ev at *
   generalize evV f d v NM (iA es 0) (bJ es ex) (rootOf es ex)=x at *
   generalize oW (bJ es ex)=co at *
   go_wp2_with fail
   refine(HA.o _ HQ1.o.lo).mono ?_
   rintro e V2 ⟨rfl,hb⟩
   have HQ2:=aA (HQ1.o.below hb)
   have HPg2:=aA (HPg1.o.later hb)
   clear hb HQ1 HPg1
   go_wp2_with fail
   refine(HP.o _).mono ?_
   rintro e V3 ⟨na,nc,ba,bc,da,dc,hD,rfl,hX,hI,hN,hb⟩
   have hb2:=aD V3 (.cells (eY (.slice na es.length nc) (.slice ba es.length bc) (.slice da (bZ es+ex.size) dc) (.i (rootOf es ex))) 50)
   have HQ3:=aA ((HQ2.o.below hb).below hb2)
   have HPg3:=aA ((HPg2.o.later hb).later hb2)
   have HEv3:=aA (HEv.o _ [] na ba da es.length nc es.length bc (bZ es+ex.size) dc (hX.later hb2) (hI.later hb2) (hN.later hb2) (qD hD.ok) HQ3.o.lo)
   have HT3:=aA (aB.new V3 50 (eY (.slice na es.length nc) (.slice ba es.length bc) (.slice da (bZ es+ex.size) dc) (.i (rootOf es ex))))
   obtain⟨k0,k1,-,-⟩:=YticnbcfmbhjbgaaGreatDoor.aP (HQ2.o.below hb).k
   obtain⟨w0,w1,w2,w3⟩:=aC (HQ2.o.below hb).w
   have z0:=(HQ2.o.below hb).k.lt
   have z1:=(HQ2.o.below hb).w.lt
   clear hb hb2 hD hX hI hN HQ2 HPg2 HEv HP
   go_wp2_with fail
   refine HEv3.o.mono ?_
   rintro e V4 ⟨rfl,hb⟩
   have HQ4:=aA (HQ3.o.below hb)
   have HPg4:=aA (HPg3.o.later hb)
   clear hb HQ3 HPg3 HEv3 HT3 k0 k1 w0 w1 w2 w3 z0 z1
   obtain⟨w0,w1,w2,w3⟩:=aC HQ4.o.w
   go_wp2_with fail
   refine(HV.o _ HPg4.o HQ4.o.lo).mono ?_
   rintro e V5 ⟨rfl,hb⟩
   have HQ5:=aA (HQ4.o.below hb)
   have HPg5:=aA (HPg4.o.later hb)
   clear hb HQ4 HPg4 HV w0 w1 w2 w3
   obtain⟨w0,w1,w2,w3⟩:=aC HQ5.o.w
   go_wp2_with fail
   refine(HQk.o _ HPg5.o HQ5.o.lo).mono ?_
   rintro e V6 ⟨rfl,hb⟩
   have HQ6:=aA (HQ5.o.below hb)
   have HPg6:=aA (HPg5.o.later hb)
   clear hb HQ5 HPg5 HQk w0 w1 w2 w3
   obtain⟨m1,m2,m3⟩:=HM.o
   have p1:(ev==ev)=true:=by simp
   have p2:(x==x)=true:=by simp
   have p3:decide (n<=co)=true:=by simpa using m1
   have p4:decide (co<=200)=true:=by simpa using m2
   rcases m3 with⟨rfl,h0⟩|⟨h0,rfl⟩
   ·have p5:decide (0 < n)=true:=by simpa using h0
    go_wp2_with fail
    refine(iY HPg6.o).mono ?_
    rintro e V7 ⟨rfl,rfl⟩
    go_wp2_with fail
    refine(iY HPg6.o).mono ?_
    rintro e V7 ⟨rfl,rfl⟩
    go_wp2_with fail
    go_ret
    exact⟨rfl,HQ6.o.lo⟩
   ·have p5:(ev==0)=false:=by simpa using h0
    go_wp2_with fail
    refine(iY HPg6.o).mono ?_
    rintro e V7 ⟨rfl,rfl⟩
    go_wp2_with fail
    refine(iY HPg6.o).mono ?_
    rintro e V7 ⟨rfl,rfl⟩
    go_wp2_with fail
    go_ret
    exact⟨rfl,HQ6.o.lo⟩
  ·exact hno _ hc fun V hb=>(sK f d h (HG.o.later hb)).mono fun e W' ⟨hb',h⟩=>by
    rcases h with⟨-,h⟩|⟨h,-⟩
    ·exact⟨h,hb'⟩
    ·exact absurd h hc
end Go.Proofs.Cpl
namespace Go.Proofs.YticnbcfmbhjbgaaGreatDoor
section
open Go.ChangeShapes Go.WideShapes Go.ChangeAt Go.RowKit Lx Pz
variable {cs:List Value} {W:World}
abbrev aE5:List (String × DataW Unit):=Rows.compileNamesRow.laid
theorem gIn : Tryz.prog.globalNamed "damask/print.inputs" = some 0 := by kernel_rfl
theorem gOp : Tryz.prog.globalNamed "damask/print.operators" = some 1 := by kernel_rfl
theorem bCh : Tryz.prog.globalNamed "internal/strconv.uint64pow10" = some 3 := by kernel_rfl
theorem yIn:(Tryz.prog.globals[0]?).map (·.type)=some 281:=by kernel_rfl
theorem yOp:(Tryz.prog.globals[1]?).map (·.type)=some 331:=by kernel_rfl
theorem bC9:(Tryz.prog.globals[3]?).map (·.type)=some 395:=by kernel_rfl
theorem bCl:Tryz.prog.cellsOf 395=20:=by kernel_rfl
theorem bCk:Tryz.prog.cellsOf 330=2:=by kernel_rfl
theorem bAw:Tryz.prog.cellsOf 9=1:=by kernel_rfl
theorem bCj:Tryz.prog.cellsOf 3=1:=by kernel_rfl
theorem bCm:Tryz.prog.cellsOf 248=1:=by kernel_rfl
theorem aYh {i:Nat}{v:Value}(h:(cs.drop i).take 1=[v]):cs[i]?=some v:=by
 have:=congrArg (·[0]?) h
 simpa [List.getElem?_take,List.getElem?_drop] using this
theorem aSb {H:Type}{enc:TypeId × Value->H}{base fuel:Nat}{sp:Nat->Bool}{held:Bool}{L:List aM}{p:List MemPlace}
  (h:DataW.trod enc Tryz.prog W base sp held fuel 281 cs=some (.agg (L.map fun s=>.lit (.string s)),p)):∀ i,i < 6->cs[i]?=some (.string (sB (L.getD i []))):=by
 obtain⟨xs,m,-,hx,-,hn,hel⟩:=DataW.trod_array Tryz.underlying281 h
 simp only[Prod.mk.injEq,DataW.agg.injEq] at hx
 intro i hi
 have h1:=hel i hi
 rw[bAw,Nat.mul_one] at h1
 have hlt:i < xs.length:=by omega
 rw[gEg hlt] at h1
 obtain⟨s,e1,e2,-⟩:=DataW.trod_string Tryz.underlying9 h1
 have e3:(xs.map (·.1))[i]?=some (.lit (.string s.data.toList)):=by rw[gEm,gEg hlt,e2];rfl
 rw[<-hx.1,gEm] at e3
 cases hL:L[i]? with
 | none=>rw[hL] at e3;cases e3
 | some l =>
  rw[hL] at e3
  simp only[Option.map_some,Option.some.injEq,DataW.lit.injEq,Lit.string.injEq] at e3
  rw[aYh e1,gdE,hL,oGs,e3]
theorem aSa {H:Type}{enc:TypeId × Value->H}{base fuel:Nat}{sp:Nat->Bool}{held:Bool}{L:List (aM × Nat)}{p:List MemPlace}
  (h:DataW.trod enc Tryz.prog W base sp held fuel 331 cs=some (.agg (L.map fun r=>.agg [.lit (.string r.1),.lit (.i (r.2:Int))]),p)):∀ i,i < 29->cs[i*2]?=some (.string (sB (L.getD i ([],0)).1))/\cs[i*2+1]?=some (.i (L.getD i ([],0)).2):=by
 obtain⟨xs,m,-,hx,-,hn,hel⟩:=DataW.trod_array Tryz.underlying331 h
 simp only[Prod.mk.injEq,DataW.agg.injEq] at hx
 intro i hi
 have h1:=hel i hi
 rw[bCk] at h1
 have hlt:i < xs.length:=by omega
 rw[gEg hlt] at h1
 obtain⟨y0,y1,m2,e2,-,g0,g1⟩:=trod_struct2 Tryz.underlying330 h1
 simp only[bAw,bCj,List.drop_zero] at g0 g1
 obtain⟨s,a1,a2,-⟩:=DataW.trod_string Tryz.underlying9 g0
 obtain⟨z,b1,b2,-⟩:=DataW.trod_int Tryz.underlying3 g1
 have c0:cs[i*2]?=some (.string s):=by
  have:=congrArg (·[0]?) a1
  simpa [List.getElem?_take,List.getElem?_drop] using this
 have c1:cs[i*2+1]?=some (.i z):=by
  have:=congrArg (·[0]?) b1
  simpa [List.getElem?_take,List.getElem?_drop] using this
 have e3:(xs.map (·.1))[i]?=some (.agg [.lit (.string s.data.toList),.lit (.i z)]):=by rw[gEm,gEg hlt,e2,a2,b2];rfl
 rw[<-hx.1,gEm] at e3
 cases hL:L[i]? with
 | none=>rw[hL] at e3;cases e3
 | some l =>
  rw[hL] at e3
  simp only[Option.map_some,Option.some.injEq,DataW.agg.injEq,List.cons.injEq,DataW.lit.injEq,Lit.string.injEq,Lit.int.injEq,true_and,and_true] at e3
  rw[c0,c1,gdE,hL,oGs,e3.1,e3.2]
  exact⟨congrArg (fun z=>some (Value.string z)) (aBt s).symm,rfl⟩
theorem bAn (h0:laidMetH Tryz.prog aE5 W):Gl W:=by
 rw[MakeChecks.laidMetH_plain _ _ _ (by kernel_rfl)] at h0
 have h3 : laidMet Tryz.prog [("internal/strconv.uint64pow10", Rows.laid_internal_strconv_uint64pow10), ("damask/print.operators", Rows.laid_damask_print_operators), ("damask/print.inputs", Rows.laid_damask_print_inputs)] W := h0.tail.tail
 have h4:=h3.tail
 have h5:=h4.tail
 have hT : Lib.TabIs Tryz.prog W "internal/strconv.uint64pow10" .u64 Lib.pow10Tab :=
  Lib.tabIs_of_head bCh bC9 Tryz.underlying395 Tryz.underlying248 bCm bCl (show laidMet Tryz.prog (("internal/strconv.uint64pow10", Lib.tabData .u64 Lib.pow10Tab) :: _) W from h3)
 obtain⟨ps,⟨g,t,cs,fuel,p,q,hg,ht,hv,hd,_,_⟩,_⟩:=h4
 obtain rfl:=Option.some.inj (gOp.symm.trans hg)
 obtain rfl:=Option.some.inj (yOp.symm.trans ht)
 obtain⟨ps2,⟨g2,t2,cs2,fuel2,p2,q2,hg2,ht2,hv2,hd2,_,_⟩,_⟩:=h5
 obtain rfl:=Option.some.inj (gIn.symm.trans hg2)
 obtain rfl:=Option.some.inj (yIn.symm.trans ht2)
 rw[show Rows.laid_damask_print_operators=(.agg (oO.map fun r=>.agg [.lit (.string r.1),.lit (.i (r.2:Int))]):DataW Unit) from by kernel_rfl] at hd
 rw[show Rows.laid_damask_print_inputs=(.agg (zC.map fun s=>.lit (.string s)):DataW Unit) from by kernel_rfl] at hd2
 have r1:=aSa hd
 have r2:=aSb hd2
 refine⟨fun k hk=>?_,fun k hk=>⟨?_,?_⟩,hT⟩
 ·have:=World.var?_cell hg2 hv2 k
  rw[this,<-Array.getElem?_toList]
  exact r2 k hk
 ·have:=World.var?_cell hg hv (k*2)
  rw[this,<-Array.getElem?_toList]
  exact(r1 k hk).1
 ·have:=World.var?_cell hg hv (k*2+1)
  rw[this,<-Array.getElem?_toList]
  exact(r1 k hk).2
end
open Go.ChangeShapes Go.WideShapes Go.ChangeAt Go.RowKit
theorem aNk (os:Os)(args:Array Value):laidMetH Tryz.prog aE5 ((World.doorLaid Tryz.prog 400 os).forCall (fun _ _=>0) ⟨#[],args,[]⟩).memory :=
 laidMetH_of_parts3 (fuel:=8) (laidMet_of_run' 8 (by kernel_rfl) (by kernel_rfl)) (by kernel_rfl) (by kernel_rfl)
theorem rP (os:Os)(started:os.Started)(H:Type)(enc:TypeId × Value->H) :
  ReturnsInHanded {} Tryz.checked os 6 .any (fun w args=>(Rows.compileMeansSpec.pre enc Tryz.prog Tryz.f6 [] false w args/\laidMetH Tryz.prog aE5 w)/\sizedMet enc Tryz.prog Tryz.f6 (OpenSpec.ofChange Rows.compileMeansSpec) false w args)
   (Rows.compileMeansSpec.post enc Tryz.prog Tryz.f6 false true false false):=by
 refine returnsInHanded_of_change_and (C:=Tryz.checked) (X:=fun w _=>laidMetH Tryz.prog aE5 w) (fun _ _ _ hh h=>h.of_heap hh) bC0 started (by kernel_rfl) Tryz.func6
  (ChangeSpec.witness_shaped (enc:=enc) (C:=Tryz.checked) (os:=os) (X:=fun w _=>laidMetH Tryz.prog aE5 w) false (World.doorLaid Tryz.prog 400 os) #[.string ⟨#[]⟩,.agg #[.i 0,.i 0],.agg #[.i 0,.i 0,.i 0,.slice none 0 0]] 8 rfl (World.shaped_of_RefB (by kernel_rfl) (by kernel_rfl)) (by kernel_rfl) (by kernel_rfl) (by kernel_rfl) (aNk os _)) ?_
 intro W base args ds gs before hval0 hW hcnd hsz0 hL _
 have hval:∀(j:Nat) t v,Tryz.f6.params[j]?=some t->args[j]?=some v->Value.okWide Tryz.prog W .any base t v:=hval0
 have hW':=hW
 obtain⟨p,q,hA0,hV,rfl,hfz,hnd⟩:=hW
 have hA:DataW.TrodAll enc Tryz.prog W 0 (fun _=>true) true Tryz.f6.params.toList args.toList ds p:=hA0
 rw[Tryz.params6] at hA hval
 obtain⟨v0,vs0,d0,ds0,p0,q0,hargs,rfl,rfl,h0,r0⟩:=trodAll_cons hA
 obtain⟨v1,vs1,d1,ds1,p1,q1,hargs1,rfl,rfl,h1,r1⟩:=trodAll_cons r0
 obtain⟨v2,vs2,d2,ds2,p2,q2,hargs2,rfl,rfl,h2,r2⟩:=trodAll_cons r1
 obtain⟨rfl,rfl,rfl⟩:=trodAll_nil r2
 obtain rfl:args=#[v0,v1,v2]:=by cases args;simp_all
 obtain⟨rfl,rfl⟩:=trodVars_none hV
 have k0:=h0
 have lt0:∀ x ∈ p0,x.block < W.heap.size:=by obtain⟨m,hm⟩:=k0;exact DataW.trod_lt m _ _ _ hm
 obtain⟨s0,rfl,hd0,hp0,hs0⟩:=Go.ChangeMaps.open_string Tryz.underlying9 (hval 0 9 v0 rfl rfl) h0
 have k1:=h1
 have lt1:∀ x ∈ p1,x.block < W.heap.size:=by obtain⟨m,hm⟩:=k1;exact DataW.trod_lt m _ _ _ hm
 obtain⟨f1,e1,rfl⟩:=aLc (hval 1 23 v1 rfl rfl) h1
 have k2:=h2
 have lt2:∀ x ∈ p2,x.block < W.heap.size:=by obtain⟨m,hm⟩:=k2;exact DataW.trod_lt m _ _ _ hm
 obtain⟨a2,b2,c2,sa2,sn2,sc2,zs2,rfl,hZ2⟩:=aFn (hval 2 26 v2 rfl rfl) h2
 clear hA0 hval0
 refine(Cpl.aEl f1 e1 s0 ⟨a2,b2,c2,zs2⟩ hZ2 (bAn hL)).mono fun e W' ⟨he,bel⟩=>?_
 subst he
 exact⟨_,rfl,_,_,_,[],_,[],hW',trodAll_mk1 (shut_bool Tryz.underlying4 _),trodAll_cons_mk (Below.trod zH (by kernel_rfl) (of_decide_eq_true (by kernel_rfl)) k0 bel lt0) (trodAll_cons_mk (Below.trod zH (by kernel_rfl) (of_decide_eq_true (by kernel_rfl)) k1 bel lt1) (trodAll_cons_mk (Below.trod zH (by kernel_rfl) (of_decide_eq_true (by kernel_rfl)) k2 bel lt2) (trodAll_mk0))),rfl,bel.frame _,fun h=>by cases h⟩
end Go.Proofs.YticnbcfmbhjbgaaGreatDoor
