import Derived.Test.YticnbcfmbhjbgaaGreatDoorX22
set_option maxRecDepth 100000
set_option maxHeartbeats 32000000
set_option linter.unusedVariables false
namespace Go.Proofs.Fld
section
open Go.RowKit Go.IntWalk Knd
open Cde (In i0 ia kd cd Ins sI aH aC aP aJ bE eH aF dL i6)
open Vfy (aW rM pJ)
open YticnbcfmbhjbgaaGreatDoor (aB)
structure Fh (W V:World)(cv wv rv:Array Value):Prop where
 c:aB V W.heap.size 33 cv
 w:aB V (W.heap.size+1) 33 wv
 r:aB V (W.heap.size+1+1) 33 rv
 lo:Below W.heap.size W V
theorem Fh.below {W V V':World}{cv wv rv:Array Value}(h:Fh W V cv wv rv)(hb:Below V.heap.size V V'):Fh W V' cv wv rv:=⟨h.c.below hb,h.w.below hb,h.r.below hb,bel h.lo hb⟩
abbrev s4 (w:World)(b:Nat)(x y z u:Value):World:=(((w.setCell ⟨b,0,none⟩ x).setCell ⟨b,1,none⟩ y).setCell ⟨b,2,none⟩ z).setCell ⟨b,3,none⟩ u
theorem Fh.put {W V:World}{cv wv:Array Value}{p q r s:Value}(h:Fh W V cv wv #[p,q,r,s])(x y z u:Value):Fh W (s4 V (W.heap.size+1+1) x y z u) cv wv #[x,y,z,u]:=by
 refine⟨?_,?_,(((h.r.set 0 x).set 1 y).set 2 z).set 3 u,?_⟩
 ·exact(((h.c.other (p:=⟨W.heap.size+1+1,0,none⟩) (by simp;omega) _).other (p:=⟨W.heap.size+1+1,1,none⟩) (by simp;omega) _).other (p:=⟨W.heap.size+1+1,2,none⟩) (by simp;omega) _).other (p:=⟨W.heap.size+1+1,3,none⟩) (by simp;omega) _
 ·exact(((h.w.other (p:=⟨W.heap.size+1+1,0,none⟩) (by simp) _).other (p:=⟨W.heap.size+1+1,1,none⟩) (by simp) _).other (p:=⟨W.heap.size+1+1,2,none⟩) (by simp) _).other (p:=⟨W.heap.size+1+1,3,none⟩) (by simp) _
 ·exact(((h.lo.setCell (p:=⟨W.heap.size+1+1,0,none⟩) (by simp;omega) _).setCell (p:=⟨W.heap.size+1+1,1,none⟩) (by simp;omega) _).setCell (p:=⟨W.heap.size+1+1,2,none⟩) (by simp;omega) _).setCell (p:=⟨W.heap.size+1+1,3,none⟩) (by simp;omega) _
theorem bD {W:World}{b:Nat}{t:TypeId}{cs:Array Value}(h:aB W b t cs):W.frozen? ⟨b,0,none⟩=false/\W.frozen? ⟨b,1,none⟩=false/\W.frozen? ⟨b,2,none⟩=false/\W.frozen? ⟨b,3,none⟩=false:=⟨h.frozen 0,h.frozen 1,h.frozen 2,h.frozen 3⟩
theorem gI {w:World}{base b size n:Nat}{e:TypeId}{v:Value}{xs:List Value}(h:w.ownsRow base e size v n xs)(hq:v.ownBlock≠some b)(x y z u:Value):(s4 w b x y z u).ownsRow base e size v n xs :=
 ownsRow_setCell_other (ownsRow_setCell_other (ownsRow_setCell_other (ownsRow_setCell_other h (a:=⟨b,0,none⟩) hq _) (a:=⟨b,1,none⟩) hq _) (a:=⟨b,2,none⟩) hq _) (a:=⟨b,3,none⟩) hq _
theorem aKs (f d o1 o2:Int){a1 a2:Option Addr}{n1 n2 c1 c2:Nat}{M L:List In}{W:World}(hM:Ins W a1 n1 c1 M)(hL:Ins W a2 n2 c2 L)(hn0:0 < n2)(hn:n2<=1000) :
  Calls Tryz.prog 325 #[.agg (cd f d a1 n1 c1 o1),.agg (cd f d a2 n2 c2 o2)] W fun e W' =>
   (aW f d M o1=0/\e=.returned (.agg (cd f d a1 n1 c1 o1))/\Below W.heap.size W W') \/
   (aW f d M o1≠0/\∃ a' c',e=.returned (.agg (cd f d a' n2 c' o2))/\W'.ownsRow W.heap.size 132 6 (.slice a' n2 c') n2 (dL L)/\Below W.heap.size W W'):=by
 have b1:=aD W (.cells (cd f d a1 n1 c1 o1) 33)
 have b2:=bel b1 (aD _ (.cells (cd f d a2 n2 c2 o2) 33))
 have b3:=bel b2 (aD _ (.cells cO 33))
 have h3:=aB.new ((W.alloc (.cells (cd f d a1 n1 c1 o1) 33)).alloc (.cells (cd f d a2 n2 c2 o2) 33)) 33 cO
 rw[wSa,wSa] at h3
 have HF0:Hid (Fh W (((W.alloc (.cells (cd f d a1 n1 c1 o1) 33)).alloc (.cells (cd f d a2 n2 c2 o2) 33)).alloc (.cells cO 33)) (cd f d a1 n1 c1 o1) (cd f d a2 n2 c2 o2) cO) :=
  aA ⟨((aB.new W 33 (cd f d a1 n1 c1 o1)).alloc (.cells (cd f d a2 n2 c2 o2) 33)).alloc (.cells cO 33),(aJ W (.cells (cd f d a1 n1 c1 o1) 33) 33 (cd f d a2 n2 c2 o2)).alloc (.cells cO 33),h3,b3⟩
 have HV:=aA (Vfy.dR f d o1 (hM.later b3))
 have HLI:=aA hL
 clear b1 b2 b3 h3 hM hL
 go_enter Tryz.func325,Tryz.ntmps325
 go_wp2_with fail
 refine HV.o.mono ?_
 rintro e V1 ⟨ga,gc,rfl,hS,hb,-,-⟩
 obtain⟨m,hm⟩:∃ m,rM f d M o1=m:=⟨_,rfl⟩
 obtain⟨co,hco⟩:∃ co,pJ f d M o1=co:=⟨_,rfl⟩
 obtain⟨er,her⟩:∃ er,aW f d M o1=er:=⟨_,rfl⟩
 rw[hm,hco,her]
 have HEr:=aA her
 have hb2:=aD V1 (.cells #[.slice ga m gc,.i co,.i 0] 55)
 have HF1:=aA ((HF0.o.below hb).below hb2)
 obtain⟨x0,x1,x2,x3⟩:=aC (HF0.o.below hb).c
 obtain⟨w0,w1,w2,w3⟩:=aC (HF0.o.below hb).w
 obtain⟨p0,p1,p2,p3⟩:=aC (HF0.o.below hb).r
 have z0:=(HF0.o.below hb).c.lt
 have z1:=(HF0.o.below hb).w.lt
 have z2:=(HF0.o.below hb).r.lt
 clear hm hco her hb hb2 hS HV HF0
 by_cases h0:er=0
 ·have hr:(er==0)=true:=by simpa using h0
  go_upto_region 3 with fail
  obtain⟨V2,hV2⟩:∃ V2,V1.alloc (.cells #[.slice ga m gc,.i co,.i 0] 55)=V2:=⟨_,rfl⟩
  rw[hV2] at HF1 ⊢
  clear x0 x1 x2 x3 w0 w1 w2 w3 p0 p1 p2 p3 z0 z1 z2 hV2
  obtain⟨x0,x1,x2,x3⟩:=aC HF1.o.c
  obtain⟨p0,p1,p2,p3⟩:=aC HF1.o.r
  obtain⟨r0,r1,r2,r3⟩:=bD HF1.o.r
  obtain⟨V3,hV3⟩:∃ V3,(((V2.setCell ⟨W.heap.size+1+1,0,none⟩ (.i f)).setCell ⟨W.heap.size+1+1,1,none⟩ (.i d)).setCell ⟨W.heap.size+1+1,2,none⟩ (.slice a1 n1 c1)).setCell ⟨W.heap.size+1+1,3,none⟩ (.i o1)=V3:=⟨_,rfl⟩
  have HF2:Hid (Fh W V3 (cd f d a1 n1 c1 o1) (cd f d a2 n2 c2 o2) (cd f d a1 n1 c1 o1)):=aA (by rw[<-hV3];exact HF1.o.put (.i f) (.i d) (.slice a1 n1 c1) (.i o1))
  go_wp2_with fail
  obtain⟨q0,q1,q2,q3⟩:=aC HF2.o.r
  exact bPr (v:=.agg (cd f d a1 n1 c1 o1)) (by simp[results,Tryz.results325,go_sem,q0,q1,q2,q3]) rfl (.inl ⟨HEr.o.trans h0,rfl,HF2.o.lo⟩)
 ·have hr:(er==0)=false:=by simpa using h0
  go_upto_region 4 with fail
  obtain⟨V2,hV2⟩:∃ V2,V1.alloc (.cells #[.slice ga m gc,.i co,.i 0] 55)=V2:=⟨_,rfl⟩
  rw[hV2] at HF1 ⊢
  clear x0 x1 x2 x3 w0 w1 w2 w3 p0 p1 p2 p3 z0 z1 z2 hV2
  obtain⟨x0,x1,x2,x3⟩:=aC HF1.o.w
  have HCl:=aA (fE ((HLI.o.later HF1.o.lo).later (aF V2)) (by omega) hn0)
  have HS:=aA fun V3 (hb:Below V2.drew.heap.size V2.drew V3)=>(HF1.o.below (bel (aF V2) hb))
  go_region_held3 (fun w'=>w'.cell? ⟨W.heap.size+1,0,none⟩=some (.i f)/\w'.cell? ⟨W.heap.size+1,1,none⟩=some (.i d)/\w'.cell? ⟨W.heap.size+1,2,none⟩=some (.slice a2 n2 c2)/\w'.cell? ⟨W.heap.size+1,3,none⟩=some (.i o2))
   (first|exact⟨x0,x1,x2,x3⟩|exact⟨k0,k1,k2,k3⟩|go_keep)
   ((first
    | (go_at_call 70;refine HCl.o.mono ?_;rintro e V3 ⟨a',c',rfl,hO,hb⟩;have HF3:=aA (HS.o V3 hb);obtain⟨k0,k1,k2,k3⟩:=aC HF3.o.w;obtain⟨p0,p1,p2,p3⟩:=aC HF3.o.r;obtain⟨r0,r1,r2,r3⟩:=bD HF3.o.r)))
  all_goals
   have HO3:=aA (Cde.bS hO (show W.heap.size<=V2.drew.heap.size from HF1.o.lo.size))
   clear k0 k1 k2 k3 p0 p1 p2 p3 r0 r1 r2 r3 hO hb HCl HS x0 x1 x2 x3
   have hq:=own_ne HO3.o HF3.o.r (by decide)
   have HO4:=aA (gI HO3.o hq (.i f) (.i d) (.slice a' n2 c') (.i o2))
   have HF4:=aA (HF3.o.put (.i f) (.i d) (.slice a' n2 c') (.i o2))
   obtain⟨V4,hV4⟩:∃ V4,(((V3.setCell ⟨W.heap.size+1+1,0,none⟩ (.i f)).setCell ⟨W.heap.size+1+1,1,none⟩ (.i d)).setCell ⟨W.heap.size+1+1,2,none⟩ (.slice a' n2 c')).setCell ⟨W.heap.size+1+1,3,none⟩ (.i o2)=V4:=⟨_,rfl⟩
   unfold s4 at HO4 HF4
   rw[hV4] at HO4 HF4 ⊢
   clear hV4 hq HF3 HO3
   go_wp2_with fail
   obtain⟨q0,q1,q2,q3⟩:=aC HF4.o.r
   exact bPr (v:=.agg (cd f d a' n2 c' o2)) (by simp[results,Tryz.results325,go_sem,q0,q1,q2,q3]) rfl (.inr ⟨by rw[HEr.o];exact h0,_,_,rfl,HO4.o,HF4.o.lo⟩)
end
open Go.RowKit Go.IntWalk Knd
open Cde (In i0 ia kd cd Ins sI aH aC aP aJ bE eH aF dL i6)
open Vfy (aW rM pJ)
open YticnbcfmbhjbgaaGreatDoor (aB)
variable {d f out:Int} {L:List In} {n:Nat} {W:World}
def mM (f d:Int)(L:List In)(out:Int):List In:=if aW f d L out=0 then fdL f d L out else[]
def foU (f d:Int)(L:List In)(out:Int):Int:=if aW f d L out=0 then fdO f d L out else 0
def yO (f d:Int)(L:List In)(out x:Int):Int:=if aW f d L out=0 then x else 0
def sF (w:World)(f d:Int)(L:List In)(out:Int)(e:Ending)(W':World):Prop :=
 ∃ a c,e=.returned (.tuple #[.agg (cd (yO f d L out f) (yO f d L out d) a (mM f d L out).length c (foU f d L out)),.i (aW f d L out)])/\W'.ownsRow w.heap.size 132 6 (.slice a (mM f d L out).length c) (mM f d L out).length (dL (mM f d L out))/\Below w.heap.size w W'
theorem sF.no {w W':World}{er:Int}(h:aW f d L out=er)(h0:er≠0)(hb:Below w.heap.size w W'):sF w f d L out (.returned (.tuple #[.agg cO,.i er])) W':=by
 subst h
 refine⟨none,0,?_,?_,hb⟩
 ·simp[yO,mM,foU,h0]
 ·rw[mM,if_neg h0];exact⟨rfl,.inl ⟨rfl,rfl⟩⟩
theorem sF.row {w W':World}{I:List In}{u:Int}{a:Option Addr}{c:Nat}(h:aW f d L out=0)(hI:fdL f d L out=I)(hu:fdO f d L out=u)(hn:I.length=n)(hO:W'.ownsRow w.heap.size 132 6 (.slice a n c) n (dL I))(hb:Below w.heap.size w W'):sF w f d L out (.returned (.tuple #[.agg (cd f d a n c u),.i 0])) W':=by
 subst hn hI hu
 refine⟨a,c,?_,?_,hb⟩
 ·simp[yO,mM,foU,h]
 ·rw[mM,if_pos h];exact hO
structure Fg (W V:World)(cv rv:Array Value):Prop where
 c:aB V W.heap.size 33 cv
 r:aB V (W.heap.size+1) 33 rv
 lo:Below W.heap.size W V
theorem Fg.below {W V V':World}{cv rv:Array Value}(h:Fg W V cv rv)(hb:Below V.heap.size V V'):Fg W V' cv rv:=⟨h.c.below hb,h.r.below hb,bel h.lo hb⟩
theorem Fg.put {V:World}{cv:Array Value}{p q r s:Value}(h:Fg W V cv #[p,q,r,s])(x y z u:Value):Fg W (s4 V (W.heap.size+1) x y z u) cv #[x,y,z,u]:=by
 refine⟨?_,(((h.r.set 0 x).set 1 y).set 2 z).set 3 u,?_⟩
 ·exact(((h.c.other (p:=⟨W.heap.size+1,0,none⟩) (by simp) _).other (p:=⟨W.heap.size+1,1,none⟩) (by simp) _).other (p:=⟨W.heap.size+1,2,none⟩) (by simp) _).other (p:=⟨W.heap.size+1,3,none⟩) (by simp) _
 ·exact(((h.lo.setCell (p:=⟨W.heap.size+1,0,none⟩) (by simp) _).setCell (p:=⟨W.heap.size+1,1,none⟩) (by simp) _).setCell (p:=⟨W.heap.size+1,2,none⟩) (by simp) _).setCell (p:=⟨W.heap.size+1,3,none⟩) (by simp) _
theorem pY {a1 a2:Option Addr}{c1 c2:Nat}(hL:L.length=n)(hO:W.ownsRow 0 132 6 (.slice a1 n c1) n (dL (oZ f d L).1))(hI:Ins W a2 n c2 L)(hn0:0 < n)(hn:n<=1000) :
  Calls Tryz.prog 325 #[.agg (cd f d a1 n c1 (foO f d L out)),.agg (cd f d a2 n c2 out)] W fun e W'=>∃ a' c',e=.returned (.agg (cd f d a' n c' (fdO f d L out)))/\(∀ base,W.ownsRow base 132 6 (.slice a1 n c1) n (dL (oZ f d L).1)->base<=W.heap.size->W'.ownsRow base 132 6 (.slice a' n c') n (dL (fdL f d L out)))/\Below W.heap.size W W':=by
 obtain⟨a',c',e',hM,-⟩:=Ins.of_owns hO
 cases e'
 refine(aKs f d (foO f d L out) out hM hI hn0 hn).mono ?_
 rintro e W' (⟨h0,rfl,hb⟩|⟨h0,a',c',rfl,ho,hb⟩)
 ·exact⟨_,_,by rw[fdO,if_pos h0],fun base h _=>by rw[fdL,if_pos h0];exact Cde.bI h hb,hb⟩
 ·exact⟨_,_,by rw[fdO,if_neg h0],fun base _ h=>by rw[fdL,if_neg h0];exact Cde.bS ho h,hb⟩
theorem aW2 (f d:Int)(L:List In)(out:Int):(fdL f d L out).length=L.length:=by
 have hlen:=(xB f d L L.length (nLr _)).1
 rw[lTg] at hlen
 unfold fdL
 split
 ·exact hlen
 ·rfl
theorem aKr (f d out:Int){a:Option Addr}{cap:Nat}(hL:Ins W a n cap L) :
  Calls Tryz.prog 277 #[.agg (cd f d a n cap out)] W (sF W f d L out):=by
 have b1:=aD W (.cells (cd f d a n cap out) 33)
 have b2:=bel b1 (aD _ (.cells cO 33))
 have HF0:Hid (Fg W ((W.alloc (.cells (cd f d a n cap out) 33)).alloc (.cells cO 33)) (cd f d a n cap out) cO) :=
  aA ⟨(aB.new W 33 (cd f d a n cap out)).alloc (.cells cO 33),aJ W (.cells (cd f d a n cap out) 33) 33 cO,b2⟩
 have HV:=aA (Vfy.dR f d out (hL.later b2))
 have HLI:=aA hL
 have HLn:=aA hL.len
 clear b1 b2 hL
 go_enter Tryz.func277,Tryz.ntmps277
 go_wp2_with fail
 refine HV.o.mono ?_
 rintro e V1 ⟨ga,gc,rfl,hS,hb,-,-⟩
 obtain⟨m,hm⟩:∃ m,rM f d L out=m:=⟨_,rfl⟩
 obtain⟨co,hco⟩:∃ co,pJ f d L out=co:=⟨_,rfl⟩
 obtain⟨er,her⟩:∃ er,aW f d L out=er:=⟨_,rfl⟩
 rw[hm,hco,her]
 have HEr:=aA her
 have hb2:=aD V1 (.cells #[.slice ga m gc,.i co,.i 0] 55)
 have HF1:=aA ((HF0.o.below hb).below hb2)
 obtain⟨x0,x1,x2,x3⟩:=aC (HF0.o.below hb).c
 obtain⟨p0,p1,p2,p3⟩:=aC (HF0.o.below hb).r
 have z0:=(HF0.o.below hb).c.lt
 have z1:=(HF0.o.below hb).r.lt
 clear hm hco her hb hb2 hS HV HF0
 by_cases h0:er=0
 ·have hr:(er != 0)=false:=by simpa using h0
  go_upto_region 4 with fail
  obtain⟨V2,hV2⟩:∃ V2,V1.alloc (.cells #[.slice ga m gc,.i co,.i 0] 55)=V2:=⟨_,rfl⟩
  rw[hV2] at HF1 ⊢
  clear x0 x1 x2 x3 p0 p1 p2 p3 z0 z1 hV2
  obtain⟨x0,x1,x2,x3⟩:=aC HF1.o.c
  have h0':=HEr.o.trans h0
  obtain⟨mc,-⟩:=Vfy.aI h0'
  obtain⟨-,m1,m2,o0,o1,-⟩:=Cde.aQ mc
  rw[HLn.o] at m1 m2 o1
  have HFo:=aA (aEs f d out ((HLI.o.later HF1.o.lo).later (aF V2)) h0')
  have HHa:=aA fun(V:World) (a1:Option Addr) (c1:Nat) (hO:V.ownsRow 0 132 6 (.slice a1 n c1) n (dL (oZ f d L).1)) (hI:Ins V a n cap L)=>pY (out:=out) HLn.o hO hI (by omega) (by omega)
  have HS:=aA fun V3 (hb:Below V2.drew.heap.size V2.drew V3)=>(HF1.o.below (bel (aF V2) hb))
  clear mc
  go_region_held3 (fun w'=>w'.cell? ⟨W.heap.size,0,none⟩=some (.i f)/\w'.cell? ⟨W.heap.size,1,none⟩=some (.i d)/\w'.cell? ⟨W.heap.size,2,none⟩=some (.slice a n cap)/\w'.cell? ⟨W.heap.size,3,none⟩=some (.i out))
   (first|exact⟨x0,x1,x2,x3⟩|exact⟨l0,l1,l2,l3⟩|exact⟨k0,k1,k2,k3⟩|go_keep)
   ((first
    | (go_at_call 326;refine HFo.o.mono ?_;rintro e V3 ⟨a',c',rfl,hO,hb⟩;have HF3:=aA (HS.o V3 hb);obtain⟨k0,k1,k2,k3⟩:=aC HF3.o.c)
    | (go_at_call 325;refine(HHa.o _ _ _ (Cde.bS hO (nZl _)) (HLI.o.later HF3.o.lo)).mono ?_;rintro e V4 ⟨a2',c2',rfl,hO4,hb4⟩;have HF4:=aA (HF3.o.below hb4);obtain⟨l0,l1,l2,l3⟩:=aC HF4.o.c;obtain⟨p0,p1,p2,p3⟩:=aC HF4.o.r;obtain⟨r0,r1,r2,r3⟩:=bD HF4.o.r)))
  all_goals
   have HO4:=aA (hO4 W.heap.size (Cde.bS hO (show W.heap.size<=V2.drew.heap.size from HF1.o.lo.size)) HF3.o.lo.size)
   clear k0 k1 k2 k3 l0 l1 l2 l3 p0 p1 p2 p3 r0 r1 r2 r3 hO hb hO4 hb4 HFo HHa HS x0 x1 x2 x3 HF3 h0 hr
   have hq:=own_ne HO4.o HF4.o.r (by decide)
   have hlen:=aW2 f d L out
   rw[HLn.o] at hlen
   generalize hu:fdO f d L out=u at *
   generalize hI:fdL f d L out=I at *
   have HO5:=aA (gI HO4.o hq (.i f) (.i d) (.slice a2' n c2') (.i u))
   have HF5:=aA (HF4.o.put (.i f) (.i d) (.slice a2' n c2') (.i u))
   obtain⟨V5,hV5⟩:∃ V5,(((V4.setCell ⟨W.heap.size+1,0,none⟩ (.i f)).setCell ⟨W.heap.size+1,1,none⟩ (.i d)).setCell ⟨W.heap.size+1,2,none⟩ (.slice a2' n c2')).setCell ⟨W.heap.size+1,3,none⟩ (.i u)=V5:=⟨_,rfl⟩
   unfold s4 at HO5 HF5
   rw[hV5] at HO5 HF5 ⊢
   clear hV5 hq HF4 HO4
   go_wp2_with fail
   obtain⟨q0,q1,q2,q3⟩:=aC HF5.o.r
   exact bPr (v:=.tuple #[.agg (cd f d a2' n c2' u),.i 0]) (by simp[results,Tryz.results277,go_sem,q0,q1,q2,q3]) rfl (sF.row h0' hI hu hlen HO5.o HF5.o.lo)
 ·have hr:(er != 0)=true:=by simpa using h0
  go_upto_region 3 with fail
  obtain⟨V2,hV2⟩:∃ V2,V1.alloc (.cells #[.slice ga m gc,.i co,.i 0] 55)=V2:=⟨_,rfl⟩
  rw[hV2] at HF1 ⊢
  clear x0 x1 x2 x3 p0 p1 p2 p3 z0 z1 hV2
  obtain⟨p0,p1,p2,p3⟩:=aC HF1.o.r
  obtain⟨r0,r1,r2,r3⟩:=bD HF1.o.r
  obtain⟨V3,hV3⟩:∃ V3,(((V2.setCell ⟨W.heap.size+1,0,none⟩ (.i 0)).setCell ⟨W.heap.size+1,1,none⟩ (.i 0)).setCell ⟨W.heap.size+1,2,none⟩ (.slice none 0 0)).setCell ⟨W.heap.size+1,3,none⟩ (.i 0)=V3:=⟨_,rfl⟩
  have HF2:Hid (Fg W V3 (cd f d a n cap out) cO):=aA (by rw[<-hV3];exact HF1.o.put (.i 0) (.i 0) (.slice none 0 0) (.i 0))
  go_wp2_with fail
  obtain⟨q0,q1,q2,q3⟩:=aC HF2.o.r
  exact bPr (v:=.tuple #[.agg cO,.i er]) (by simp[results,Tryz.results277,go_sem,q0,q1,q2,q3]) rfl (sF.no HEr.o h0 HF2.o.lo)
end Go.Proofs.Fld
