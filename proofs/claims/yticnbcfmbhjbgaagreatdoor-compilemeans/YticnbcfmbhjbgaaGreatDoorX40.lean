import Derived.Test.YticnbcfmbhjbgaaGreatDoorX39
set_option maxRecDepth 100000
set_option maxHeartbeats 32000000
set_option linter.unusedVariables false
namespace Go.Proofs.Rdc
open Go.RowKit Go.IntWalk Knd
open Cde (In i0 ia kd cd Ins sI aH aC aP aJ bE eH aF dL i6)
open Vfy (aW rM pJ sD)
open YticnbcfmbhjbgaaGreatDoor (aB)
open Fld (bD own_ne s4 gI)
variable {d f out:Int} {L:List In} {n:Nat} {W:World}
def mM (f d:Int)(L:List In)(out:Int):List In:=if aW f d L out=0 then rxL f d L out else[]
def foU (f d:Int)(L:List In)(out:Int):Int:=if aW f d L out=0 then rxO f d L out else 0
def yO (f d:Int)(L:List In)(out x:Int):Int:=if aW f d L out=0 then x else 0
def sF (w:World)(f d:Int)(L:List In)(out:Int)(e:Ending)(W':World):Prop :=
 ∃ a c,e=.returned (.tuple #[.agg (cd (yO f d L out f) (yO f d L out d) a (mM f d L out).length c (foU f d L out)),.i (aW f d L out)])/\W'.ownsRow w.heap.size 132 6 (.slice a (mM f d L out).length c) (mM f d L out).length (dL (mM f d L out))/\Below w.heap.size w W'
theorem sF.no {w W':World}{er:Int}(h:aW f d L out=er)(h0:er≠0)(hb:Below w.heap.size w W'):sF w f d L out (.returned (.tuple #[.agg cO,.i er])) W':=by
 subst h
 refine⟨none,0,?_,?_,hb⟩
 ·simp[yO,mM,foU,h0]
 ·rw[mM,if_neg h0];exact⟨rfl,.inl ⟨rfl,rfl⟩⟩
theorem sF.row {w W':World}{I:List In}{u:Int}{a:Option Addr}{c:Nat}(h:aW f d L out=0)(hI:rxL f d L out=I)(hu:rxO f d L out=u)(hn:I.length=n)(hO:W'.ownsRow w.heap.size 132 6 (.slice a n c) n (dL I))(hb:Below w.heap.size w W'):sF w f d L out (.returned (.tuple #[.agg (cd f d a n c u),.i 0])) W':=by
 subst hn hI hu
 refine⟨a,c,?_,?_,hb⟩
 ·simp[yO,mM,foU,h]
 ·rw[mM,if_pos h];exact hO
structure Fg (W V:World)(cv rv:Array Value)(gr:Nat)(pv:Array Value):Prop where
 c:aB V W.heap.size 33 cv
 r:aB V (W.heap.size+1) 33 rv
 p:aB V gr 55 pv
 lo:Below W.heap.size W V
theorem Fg.below {W V V':World}{cv rv pv:Array Value}{gr:Nat}(h:Fg W V cv rv gr pv)(hb:Below V.heap.size V V'):Fg W V' cv rv gr pv:=⟨h.c.below hb,h.r.below hb,h.p.below hb,bel h.lo hb⟩
theorem aAr {V:World}{p q r s:Value}(h:aB V (W.heap.size+1) 33 #[p,q,r,s])(hl:Below W.heap.size W V)(x y z u:Value):aB (s4 V (W.heap.size+1) x y z u) (W.heap.size+1) 33 #[x,y,z,u]/\Below W.heap.size W (s4 V (W.heap.size+1) x y z u) :=
 ⟨(((h.set 0 x).set 1 y).set 2 z).set 3 u,(((hl.setCell (p:=⟨W.heap.size+1,0,none⟩) (by simp) _).setCell (p:=⟨W.heap.size+1,1,none⟩) (by simp) _).setCell (p:=⟨W.heap.size+1,2,none⟩) (by simp) _).setCell (p:=⟨W.heap.size+1,3,none⟩) (by simp) _⟩
theorem pY {a1 a2:Option Addr}{m c1 c2:Nat}(hL:L.length=n)(hm:(rdN f d L out).length=m)(hO:W.ownsRow 0 132 6 (.slice a1 m c1) m (dL (rdN f d L out)))(hI:Ins W a2 n c2 L)(hn0:0 < n)(hn:n<=1000) :
  Calls Tryz.prog 329 #[.agg (cd f d a1 m c1 (rdO f d L out)),.agg (cd f d a2 n c2 out)] W fun e W'=>∃ a' l c',(rxL f d L out).length=l/\e=.returned (.agg (cd f d a' l c' (rxO f d L out)))/\(∀ base,W.ownsRow base 132 6 (.slice a1 m c1) m (dL (rdN f d L out))->base<=W.heap.size->W'.ownsRow base 132 6 (.slice a' l c') l (dL (rxL f d L out)))/\Below W.heap.size W W':=by
 obtain⟨a',c',e',hM,-⟩:=Ins.of_owns hO
 cases e'
 refine(aL1 f d (rdO f d L out) out hM hI hn0 hn).mono ?_
 rintro e W' (⟨h0,rfl,hb⟩|⟨h0,a',c',rfl,ho,hb⟩)
 ·exact⟨_,m,_,by rw[rxL,if_pos h0];exact hm,by rw[rxO,if_pos h0],fun base h _=>by rw[rxL,if_pos h0];exact Cde.bI h hb,hb⟩
 ·exact⟨_,n,_,by rw[rxL,if_neg h0];exact hL,by rw[rxO,if_neg h0],fun base _ h=>by rw[rxL,if_neg h0];exact Cde.bS ho h,hb⟩
theorem aGh (f d out:Int){a:Option Addr}{cap:Nat}(hL:Ins W a n cap L) :
  Calls Tryz.prog 279 #[.agg (cd f d a n cap out)] W (sF W f d L out):=by
 have b1:=aD W (.cells (cd f d a n cap out) 33)
 have b2:=bel b1 (aD _ (.cells cO 33))
 have HC0:=aA ((aB.new W 33 (cd f d a n cap out)).alloc (.cells cO 33))
 have HR0:=aA (aJ W (.cells (cd f d a n cap out) 33) 33 cO)
 have HB0:=aA b2
 have HV:=aA (Vfy.dR f d out (hL.later b2))
 have HLI:=aA hL
 have HLn:=aA hL.len
 clear b1 b2 hL
 go_enter Tryz.func279,Tryz.ntmps279
 go_wp2_with fail
 refine HV.o.mono ?_
 rintro e V1 ⟨ga,gc,rfl,hS,hb,-,-⟩
 obtain⟨m,hm⟩:∃ m,rM f d L out=m:=⟨_,rfl⟩
 obtain⟨co,hco⟩:∃ co,pJ f d L out=co:=⟨_,rfl⟩
 obtain⟨er,her⟩:∃ er,aW f d L out=er:=⟨_,rfl⟩
 rw[hm] at hS
 rw[hm,hco,her]
 have HEr:=aA her
 have hb2:=aD V1 (.cells #[.slice ga m gc,.i co,.i 0] 55)
 have HF1:Hid (Fg W (V1.alloc (.cells #[.slice ga m gc,.i co,.i 0] 55)) (cd f d a n cap out) cO V1.heap.size #[.slice ga m gc,.i co,.i 0]):=aA ⟨(HC0.o.below hb).below hb2,(HR0.o.below hb).below hb2,aB.new V1 55 _,bel (bel HB0.o hb) hb2⟩
 have HSp:=aA (hS.later hb2)
 obtain⟨x0,x1,x2,x3⟩:=aC (HC0.o.below hb)
 obtain⟨p0,p1,p2,p3⟩:=aC (HR0.o.below hb)
 have z0:=(HC0.o.below hb).lt
 have z1:=(HR0.o.below hb).lt
 clear hm hco her hb hb2 hS HV HC0 HR0 HB0
 by_cases h0:er=0
 ·have hr:(er != 0)=false:=by simpa using h0
  go_upto_region 4 with fail
  obtain⟨gr,hgr⟩:∃ gr,V1.heap.size=gr:=⟨_,rfl⟩
  obtain⟨V2,hV2⟩:∃ V2,V1.alloc (.cells #[.slice ga m gc,.i co,.i 0] 55)=V2:=⟨_,rfl⟩
  rw[hV2] at HF1 HSp ⊢
  rw[hgr] at HF1 ⊢
  clear x0 x1 x2 x3 p0 p1 p2 p3 z0 z1 hV2 hgr
  obtain⟨x0,x1,x2,x3⟩:=aC HF1.o.c
  have y0:=HF1.o.p.cell 0 rfl
  have h0':=HEr.o.trans h0
  obtain⟨mc,-⟩:=Vfy.aI h0'
  obtain⟨-,m1,m2,o0,o1,-⟩:=Cde.aQ mc
  rw[HLn.o] at m1 m2 o1
  have HFo:=aA (aD6 f d out ((HLI.o.later HF1.o.lo).later (aF V2)) h0' (HSp.o.later (aF V2)))
  have HHa:=aA fun(V:World) (a1:Option Addr) (l c1:Nat) (hl:(rdN f d L out).length=l) (hO:V.ownsRow 0 132 6 (.slice a1 l c1) l (dL (rdN f d L out))) (hI:Ins V a n cap L)=>pY (f:=f) (d:=d) (out:=out) HLn.o hl hO hI (by omega) (by omega)
  have HS:=aA fun V3 (hb:Below V2.drew.heap.size V2.drew V3)=>(HF1.o.below (bel (aF V2) hb))
  clear mc
  go_region_held3 (fun w'=>w'.cell? ⟨W.heap.size,0,none⟩=some (.i f)/\w'.cell? ⟨W.heap.size,1,none⟩=some (.i d)/\w'.cell? ⟨W.heap.size,2,none⟩=some (.slice a n cap)/\w'.cell? ⟨W.heap.size,3,none⟩=some (.i out)/\w'.cell? ⟨gr,0,none⟩=some (.slice ga m gc))
   (first|exact⟨x0,x1,x2,x3,y0⟩|exact⟨l0,l1,l2,l3,l4⟩|exact⟨k0,k1,k2,k3,k4⟩|exact⟨u0,u1,u2,u3,u4⟩|go_keep)
   ((first
    | (go_at_call 330;refine HFo.o.mono ?_;rintro e V3 ⟨a',l',c',hl',rfl,hO,hb⟩;have HF3:=aA (HS.o V3 hb);obtain⟨k0,k1,k2,k3⟩:=aC HF3.o.c;have k4:=HF3.o.p.cell 0 rfl)
    | (go_at_call 329;refine(HHa.o _ _ _ _ hl' (Cde.bS hO (nZl _)) (HLI.o.later HF3.o.lo)).mono ?_;rintro e V4 ⟨a2',l2',c2',hl2,rfl,hO4,hb4⟩;have HF4:=aA (HF3.o.below hb4);obtain⟨l0,l1,l2,l3⟩:=aC HF4.o.c;have l4:=HF4.o.p.cell 0 rfl;obtain⟨p0,p1,p2,p3⟩:=aC HF4.o.r;obtain⟨r0,r1,r2,r3⟩:=bD HF4.o.r;have hgr:gr≠W.heap.size+1:=aHa HF4.o.p HF4.o.r (by decide);have u4:=aB.cell (aB.other (aB.other (aB.other (aB.other HF4.o.p (p:=⟨W.heap.size+1,0,none⟩) hgr (.i f)) (p:=⟨W.heap.size+1,1,none⟩) hgr (.i d)) (p:=⟨W.heap.size+1,2,none⟩) hgr (.slice a2' l2' c2')) (p:=⟨W.heap.size+1,3,none⟩) hgr (.i (rxO f d L out))) 0 rfl;obtain⟨u0,u1,u2,u3⟩:=aC (aB.other (aB.other (aB.other (aB.other HF4.o.c (p:=⟨W.heap.size+1,0,none⟩) (show W.heap.size≠W.heap.size+1 by omega) (.i f)) (p:=⟨W.heap.size+1,1,none⟩) (show W.heap.size≠W.heap.size+1 by omega) (.i d)) (p:=⟨W.heap.size+1,2,none⟩) (show W.heap.size≠W.heap.size+1 by omega) (.slice a2' l2' c2')) (p:=⟨W.heap.size+1,3,none⟩) (show W.heap.size≠W.heap.size+1 by omega) (.i (rxO f d L out))))))
  all_goals
   have HO4:=aA (hO4 W.heap.size (Cde.bS hO (show W.heap.size<=V2.drew.heap.size from HF1.o.lo.size)) HF3.o.lo.size)
   clear u0 u1 u2 u3 u4 k0 k1 k2 k3 k4 l0 l1 l2 l3 l4 p0 p1 p2 p3 r0 r1 r2 r3 hO hb hO4 hb4 HFo HHa HS x0 x1 x2 x3 y0 HF3 h0 hr
   have hq:=own_ne HO4.o HF4.o.r (by decide)
   generalize hu:rxO f d L out=u at *
   generalize hI:rxL f d L out=I at *
   have HO5:=aA (gI HO4.o hq (.i f) (.i d) (.slice a2' l2' c2') (.i u))
   have HF5:=aA (aAr HF4.o.r HF4.o.lo (.i f) (.i d) (.slice a2' l2' c2') (.i u))
   obtain⟨V5,hV5⟩:∃ V5,(((V4.setCell ⟨W.heap.size+1,0,none⟩ (.i f)).setCell ⟨W.heap.size+1,1,none⟩ (.i d)).setCell ⟨W.heap.size+1,2,none⟩ (.slice a2' l2' c2')).setCell ⟨W.heap.size+1,3,none⟩ (.i u)=V5:=⟨_,rfl⟩
   unfold s4 at HO5 HF5
   rw[hV5] at HO5 HF5 ⊢
   clear hV5 hq HF4 HO4
   go_wp2_with fail
   obtain⟨q0,q1,q2,q3⟩:=aC HF5.o.1
   exact bPr (v:=.tuple #[.agg (cd f d a2' l2' c2' u),.i 0]) (by simp[results,Tryz.results279,go_sem,q0,q1,q2,q3]) rfl (sF.row h0' hI hu hl2 HO5.o HF5.o.2)
 ·have hr:(er != 0)=true:=by simpa using h0
  go_upto_region 3 with fail
  obtain⟨V2,hV2⟩:∃ V2,V1.alloc (.cells #[.slice ga m gc,.i co,.i 0] 55)=V2:=⟨_,rfl⟩
  rw[hV2] at HF1 ⊢
  clear x0 x1 x2 x3 p0 p1 p2 p3 z0 z1 hV2
  obtain⟨p0,p1,p2,p3⟩:=aC HF1.o.r
  obtain⟨r0,r1,r2,r3⟩:=bD HF1.o.r
  obtain⟨V3,hV3⟩:∃ V3,(((V2.setCell ⟨W.heap.size+1,0,none⟩ (.i 0)).setCell ⟨W.heap.size+1,1,none⟩ (.i 0)).setCell ⟨W.heap.size+1,2,none⟩ (.slice none 0 0)).setCell ⟨W.heap.size+1,3,none⟩ (.i 0)=V3:=⟨_,rfl⟩
  have HF2:=aA (aAr HF1.o.r HF1.o.lo (.i 0) (.i 0) (.slice none 0 0) (.i 0))
  unfold s4 at HF2
  rw[hV3] at HF2
  go_wp2_with fail
  obtain⟨q0,q1,q2,q3⟩:=aC HF2.o.1
  exact bPr (v:=.tuple #[.agg cO,.i er]) (by simp[results,Tryz.results279,go_sem,q0,q1,q2,q3]) rfl (sF.no HEr.o h0 HF2.o.2)
end Go.Proofs.Rdc
