import Derived.Test.YticnbcfmbhjbgaaGreatDoorX26
import Derived.Test.YticnbcfmbhjbgaaGreatDoorX30
import Derived.Test.YticnbcfmbhjbgaaGreatDoorX23
set_option maxRecDepth 100000
set_option maxHeartbeats 32000000
set_option linter.unusedVariables false
namespace Go.Proofs.Cpl
open Go.RowKit Go.IntWalk Knd
open YticnbcfmbhjbgaaGreatDoor (Wd dQ aB)
open Cde (In i0 ia kd cd Ins dL aC fZ aQ)
open Fld (bD)
open YticnbcfmbhjbgaaGreatDoor (cO lS nN)
open Vfy (aW aI)
open Vmm (rT zL)
open Chn (hrV yU)
variable {V:World} {g:Nat} {d f o z:Int} {L:List In}
theorem iY {s:ByteArray}(h:Pg V g f d L o s z):Calls Tryz.prog 19 #[.pointer (some ⟨g,0,none⟩)] V fun e W'=>e=.returned (.i z)/\W'=V:=by
 obtain⟨m,q,a,n,c,hx,-⟩:=h.x
 obtain⟨e0,e1,e2,e3,e4,e5,e6,e7⟩:=pU hx
 clear h hx
 go_enter Tryz.func19,Tryz.ntmps19
 go_wp2_with fail
 go_ret
 exact⟨rfl,rfl⟩
theorem aQ5 {s:ByteArray}(h:Pg V g f d L o s z):Calls Tryz.prog 24 #[.pointer (some ⟨g,0,none⟩)] V fun e W'=>e=.returned (.string s)/\W'=V:=by
 obtain⟨m,q,a,n,c,hx,-⟩:=h.x
 obtain⟨e0,e1,e2,e3,e4,e5,e6,e7⟩:=pU hx
 clear h hx
 go_enter Tryz.func24,Tryz.ntmps24
 go_wp2_with fail
 go_ret
 exact⟨rfl,rfl⟩
def CoP (V:World)(f d:Int)(L:List In)(o:Int)(e:Ending)(W':World):Prop :=
 ∃ a' c',e=.returned (.agg (cd f d a' L.length c' o))/\W'.ownsRow V.heap.size 132 6 (.slice a' L.length c') L.length (dL L)/\Below V.heap.size V W'
theorem aNe {s:ByteArray}(h:Pg V g f d L o s z)(h0:aW f d L o=0):Calls Tryz.prog 27 #[.pointer (some ⟨g,0,none⟩)] V (CoP V f d L o):=by
 obtain⟨m,q,a,n,c,hx,hL,-⟩:=h.x
 obtain⟨mc,-⟩:=aI h0
 obtain⟨-,m1,m2,-,-,-⟩:=aQ mc
 have hn:=hL.len
 subst hn
 obtain⟨V0,hV0⟩:∃ V0,V.alloc (.cells cO 33)=V0:=⟨_,rfl⟩
 have hb1:=aD V (.cells cO 33)
 rw[hV0] at hb1
 have hs0:V0.heap.size=V.heap.size+1:=by rw[<-hV0,wSa]
 obtain⟨e0,e1,e2,e3,e4,e5,e6,e7⟩:=pU (hx.below hb1)
 have hb2:=aD V0 (.cells (cd f d a L.length c o) 33)
 have HCl:=aA (Fld.fE ((hL.later hb1).later hb2) (by omega) (by omega))
 have HC1:=aA (aB.new V0 33 (cd f d a L.length c o))
 have HR1:=aA ((aB.new V 33 cO).alloc (.cells (cd f d a L.length c o) 33))
 rw[hV0] at HR1
 have HB1:=aA (bel hb1 hb2)
 rw[hs0] at HC1
 clear h hx hb1 hb2 hL mc h0
 go_enter Tryz.func27,Tryz.ntmps27
 go_wp2_with fail
 refine HCl.o.mono ?_
 rintro e V2 ⟨a2,k2,rfl,hO,hb⟩
 have HC2:=HC1.o.below hb
 have hne:Value.ownBlock (.slice a2 L.length k2)≠some (V.heap.size+1):=fun hk=>by
  have:=(hO.lt _ hk).1
  have:=HC1.o.lt
  omega
 have HO2:=aA (Cde.bS (ownsRow_setCell_other hO (a:=⟨V.heap.size+1,2,none⟩) hne (.slice a2 L.length k2)) HB1.o.size)
 have HC3:=aA (HC2.set 2 (.slice a2 L.length k2))
 have HB3:=aA ((bel HB1.o hb).setCell (p:=⟨V.heap.size+1,2,none⟩) (Nat.le_succ _) (.slice a2 L.length k2))
 have hr3:=(HR1.o.below hb).other (p:=⟨V.heap.size+1,2,none⟩) (by simp) (.slice a2 L.length k2)
 obtain⟨c0,c1,c2,c3⟩:=aC hr3
 obtain⟨f0,f1,f2,f3⟩:=bD hr3
 have hz3:=hr3.lt
 obtain⟨hp,hpb⟩:=lS hr3 (w:=V) HB3.o (nLr _) (.i f) (.i d) (.slice a2 L.length k2) (.i o)
 have HO4:=aA (nN HO2.o hr3 (by decide) (.i f) (.i d) (.slice a2 L.length k2) (.i o))
 have z2:=HC2.frozen 2
 have hz2:=HC2.lt
 obtain⟨p0,p1,p2,p3⟩:=aC HC2
 obtain⟨d0,d1,d2,d3⟩:=aC HC3.o
 clear hr3 HR1 hb hO hne HC2 HCl HC1 e0 e1 e2 e3 e4 e5 e6 e7 hV0
 go_wp2_with fail
 obtain⟨q0,q1,q2,q3⟩:=aC hp
 exact bPr (v:=.agg (cd f d a2 L.length k2 o)) (by simp[results,Tryz.results27,go_sem,q0,q1,q2,q3]) rfl ⟨_,_,rfl,HO4.o,hpb⟩
theorem kU {s:ByteArray}(v:Wd){pa:Option Addr}{pl pc:Nat}(h:Pg V g f d L o s z)(hP:Knd.Ints V pa pl pc v.ps)(h0:aW f d L o=0) :
  Calls Tryz.prog 21 #[.pointer (some ⟨g,0,none⟩),.agg (dQ v pa pl pc)] V fun e W'=>e=.returned (rT (fZ f d v L o) o)/\Below V.heap.size V W':=by
 obtain⟨m,q,a,n,c,hx,-,⟨l,a2,n2,c2,hM⟩,-⟩:=h.x
 have hb1:=aD V (.cells (dQ v pa pl pc) 26)
 obtain⟨x,k,er,hr⟩:∃ x k er,rT (fZ f d v L o) o=.tuple #[.i x,.i k,.i er]:=⟨_,_,_,rfl⟩
 have HR:=aA fun(V':World) (hb:Below V.heap.size V V')=>zL v (hM.later hb) (hP.later hb) h0
 rw[hr] at HR ⊢
 have HX:=aA (hx.below hb1)
 have HW:=aA (aB.new V 26 (dQ v pa pl pc))
 have HB0:=aA hb1
 clear h hx hM hb1 hP h0 hr
 go_enter Tryz.func21,Tryz.ntmps21
 go_wp2_with fail
 obtain⟨W1,hW1⟩:∃ W1,V.alloc (.cells (dQ v pa pl pc) 26)=W1:=⟨_,rfl⟩
 rw[hW1] at HX HW HB0 ⊢
 clear hW1
 obtain⟨e0,e1,e2,e3,e4,e5,e6,e7⟩:=pU HX.o
 obtain⟨y0,y1,y2,y3⟩:=aC HW.o
 have r0:=cell_regrown e0
 have r1:=cell_regrown e1
 have r2:=cell_regrown y0
 have r3:=cell_regrown y1
 have r4:=cell_regrown y2
 have r5:=cell_regrown y3
 have HRi:=aA fun(V':World) (hb:Below W1.heap.size W1 V')=>HR.o V' (bel HB0.o hb)
 clear HR
 refine wp_region_quiet_below Cde.lL (by kernel_rfl) ?_
 repeat (go_big_quiet_step (fail))
 go_big_quiet_step ((go_at_call 60;exact Calls.regrown_of (HRi.o _ (below_regrown _ _ _))))
 repeat (go_big_quiet_step (fail))
 refine wpQuiet_nil ?_
 intro V1 hw'
 obtain⟨⟨dq,osq⟩,hw''⟩:=hw'
 have hb:=below_regrown W1 dq osq
 simp only at hw''
 rw[<-hw''] at hb
 have HB1:=aA (bel HB0.o hb)
 clear hw'' hb r0 r1 r2 r3 r4 r5 HRi HB0 HX HW e0 e1 e2 e3 e4 e5 e6 e7 y0 y1 y2 y3
 go_wp2_with fail
 exact bPr (v:=.tuple #[.i x,.i k,.i er]) (by simp[results,Tryz.results21,go_sem]) rfl ⟨rfl,HB1.o⟩
theorem aLm {s:ByteArray}(v:Wd){pa:Option Addr}{pl pc:Nat}(h:Pg V g f d L o s z)(hP:Knd.Ints V pa pl pc v.ps)(h0:aW f d L o=0) :
  Calls Tryz.prog 22 #[.pointer (some ⟨g,0,none⟩),.agg (dQ v pa pl pc)] V fun e W'=>e=.returned (hrV (fZ f d v L o) o)/\Below V.heap.size V W':=by
 obtain⟨m,q,a,n,c,hx,-,-,l,b,k,hM⟩:=h.x
 have hb1:=aD V (.cells (dQ v pa pl pc) 26)
 obtain⟨x,er,hr⟩:∃ x er,hrV (fZ f d v L o) o=.tuple #[.i x,.i er]:=⟨_,_,rfl⟩
 have HR:=aA fun(V':World) (hb:Below V.heap.size V V')=>yU v (hM.later hb) (hP.later hb) h0
 rw[hr] at HR ⊢
 have HX:=aA (hx.below hb1)
 have HW:=aA (aB.new V 26 (dQ v pa pl pc))
 have HB0:=aA hb1
 clear h hx hM hb1 hP h0 hr
 go_enter Tryz.func22,Tryz.ntmps22
 go_wp2_with fail
 obtain⟨W1,hW1⟩:∃ W1,V.alloc (.cells (dQ v pa pl pc) 26)=W1:=⟨_,rfl⟩
 rw[hW1] at HX HW HB0 ⊢
 clear hW1
 obtain⟨e0,e1,e2,e3,e4,e5,e6,e7⟩:=pU HX.o
 obtain⟨y0,y1,y2,y3⟩:=aC HW.o
 have r0:=cell_regrown e0
 have r1:=cell_regrown e1
 have r2:=cell_regrown y0
 have r3:=cell_regrown y1
 have r4:=cell_regrown y2
 have r5:=cell_regrown y3
 have HRi:=aA fun(V':World) (hb:Below W1.heap.size W1 V')=>HR.o V' (bel HB0.o hb)
 clear HR
 refine wp_region_quiet_below Cde.lL (by kernel_rfl) ?_
 repeat (go_big_quiet_step (fail))
 go_big_quiet_step ((go_at_call 61;exact Calls.regrown_of (HRi.o _ (below_regrown _ _ _))))
 repeat (go_big_quiet_step (fail))
 refine wpQuiet_nil ?_
 intro V1 hw'
 obtain⟨⟨dq,osq⟩,hw''⟩:=hw'
 have hb:=below_regrown W1 dq osq
 simp only at hw''
 rw[<-hw''] at hb
 have HB1:=aA (bel HB0.o hb)
 clear hw'' hb r0 r1 r2 r3 r4 r5 HRi HB0 HX HW e0 e1 e2 e3 e4 e5 e6 e7 y0 y1 y2 y3
 go_wp2_with fail
 go_ret2
 exact⟨rfl,HB1.o⟩
end Go.Proofs.Cpl
