import Derived.Test.YticnbcfmbhjbgaaGreatDoorXH
import Derived.Deep.RegionHeld3
import Derived.Deep.AppendLies
import Derived.Lib.SliceRun
import Derived.Deep.CutRange
import Derived.Deep.RegionWith
import Derived.Test.YticnbcfmbhjbgaaGreatDoorX14
import Derived.Test.YticnbcfmbhjbgaaGreatDoorX06
import Derived.Test.YticnbcfmbhjbgaaGreatDoorX18
import Derived.Test.YticnbcfmbhjbgaaGreatDoorX16
set_option maxRecDepth 100000
set_option maxHeartbeats 32000000
set_option linter.unusedVariables false
namespace Go.Proofs.Vmm
open Go.RowKit Go.IntWalk Knd
open YticnbcfmbhjbgaaGreatDoor (Wd pE Fits inpV)
open Cde (In i0 ia kd cd Ins qY aH aC aO aI bG dZ aF dA i6 zA aG dH qN kS TwP iZ)
open Vfy (bB w32)
open YticnbcfmbhjbgaaGreatDoor (aB)
structure Mc (V:World)(lo g:Nat)(f d:Int)(L:List In)(o:Int)(a:Option Addr)(n c:Nat):Prop where
 b:aB V g 198 (cd f d a n c o)
 s:V.ownsRow lo 132 6 (.slice a n c) n (dA L)
 lo:lo<=g
theorem Mc.later {V V':World}{lo g:Nat}{f d:Int}{L:List In}{o:Int}{a:Option Addr}{n c:Nat}(h:Mc V lo g f d L o a n c)(hb:Below V.heap.size V V'):Mc V' lo g f d L o a n c:=⟨h.b.below hb,Cde.bH h.s hb,h.lo⟩
def tr (b:Bool):Int:=if b=true then 1 else 0
end Go.Proofs.Vmm
namespace Go.Proofs.Vmm
open Go.RowKit Go.IntWalk Knd
open Cde (In i0 ia aI)
open Vfy (w32)
open Spn (bO ex gH ar gG aP wd cZ cons)
def Two (op:Int):Prop:=∀(a b x:Int) (w:World),w32 a->w32 b->w32 x->ex op 0 0 a b 0=(x,0) ->
 Calls Tryz.prog 273 #[.i op,.int .i32 a,.int .i32 b] w fun e w'=>e=.returned (.int .i32 x)/\w'=w

end Go.Proofs.Vmm
namespace Go.Proofs.Vmm
open Go.RowKit Go.IntWalk Knd
open YticnbcfmbhjbgaaGreatDoor (Wd pE Fits inpV)
open Cde (In i0 ia kd cd Ins qY aH aC aO aI bG dZ aF dH iZ dK qA)
open Vfy (w32)
open Spn (bO ex gH ar gG aP wd cZ cons)
open YticnbcfmbhjbgaaGreatDoor (aB)

end Go.Proofs.Vmm
namespace Go.Proofs.Vmm
open Go.RowKit Go.IntWalk Knd
open YticnbcfmbhjbgaaGreatDoor (Wd pE Fits inpV)
open Cde (In i0 ia kd cd Ins dA qY aH aC aO aI bG dZ dG aF aG dH qN fH uV kS TwP aS)
open Vfy (bB w32 rR aP1 zS aJ oZ)
open YticnbcfmbhjbgaaGreatDoor (aB)

end Go.Proofs.Vmm
namespace Go.Proofs.Vmm
open Go.RowKit Go.IntWalk Knd
open Cde (In Ins dA ia i0)

end Go.Proofs.Vmm
namespace Go.Proofs.Vmm
open Go.RowKit Go.IntWalk Knd
open YticnbcfmbhjbgaaGreatDoor (Wd pE Fits inpV)
open Cde (In i0 ia kd cd Ins dA qY aH aC aO aI bG zA jF aIw aG dH qN kS TwP aS)
open Vfy (bB qG qF w32 aJ oZ zS)
open YticnbcfmbhjbgaaGreatDoor (aB)
open Fld (eZ)
def rnX (Z:Int × List Int)(o:Int):Int:=if Z.1=0 then Z.2.getD o.toNat 0 else 0
def rnN (Z:Int × List Int):Int:=if Z.1=0 then Z.2.length else 0
def aZs (Z:Int × List Int)(o:Int):Value:=.tuple #[.i (rnX Z o),.i (rnN Z),.i Z.1]
def NwP (w:World)(f d:Int)(L:List In)(out:Int)(e:Ending)(W':World):Prop :=
 Below w.heap.size w W'/\((bB f d L out≠0/\e=.returned (.tuple #[.pointer none,.i (bB f d L out)]))\/(bB f d L out=0/\∃ g a n c,e=.returned (.tuple #[.pointer (some ⟨g,0,none⟩),.i 0])/\Mc W' w.heap.size g f d L out a n c))
theorem aEk (f d out:Int){a:Option Addr}{n cap:Nat}{L:List In}{W:World}(hL:Ins W a n cap L) :
  Calls Tryz.prog 78 #[.agg (cd f d a n cap out)] W (NwP W f d L out):=by
 have hb1:=aD W (.cells (cd f d a n cap out) 33)
 have HC0:=aA (aB.new W 33 (cd f d a n cap out))
 have HV:=aA (Vfy.dI f d out (hL.later hb1))
 have HB0:=aA hb1
 have HLI:=aA hL
 clear hb1
 by_cases h0:bB f d L out=0
 ·obtain⟨mc,-⟩:=aJ h0
  obtain⟨-,m1,m2,-,-,-⟩:=aS mc
  rw[hL.len] at m1 m2
  unfold Vfy.VfP at HV
  rw[h0] at HV
  have H0:=aA h0
  generalize qG f d L out=vm at *
  generalize qF f d L out=vc at *
  generalize Vfy.qR f d L out=vs at *
  clear mc h0 hL
  go_enter Tryz.func78,Tryz.ntmps78
  go_wp2_with fail
  refine HV.o.mono ?_
  rintro e V1 ⟨ga,gc,rfl,hS,hb,-,-⟩
  have hb2:=bel hb (aD V1 (.cells #[.slice ga vm gc,.i vc,.i 0] 55))
  have HC1:=aA (HC0.o.below hb2)
  have HB1:=aA (bel HB0.o hb2)
  have HCl:=aA (eZ (HLI.o.later HB1.o) (by omega) (by omega))
  obtain⟨c0,c1,c2,c3⟩:=aC (HC0.o.below hb)
  have hz:=(HC0.o.below hb).lt
  clear hb hb2 hS HV HC0 HB0
  go_wp2_with fail
  refine HCl.o.mono ?_
  rintro e V2 ⟨a2,k2,rfl,hO,hb⟩
  have HC2:=HC1.o.below hb
  have hne:Value.ownBlock (.slice a2 n k2)≠some W.heap.size:=fun hk=>by
   have:=(hO.lt _ hk).1
   have:=HC1.o.lt
   omega
  have HO2:=aA (Cde.bS (ownsRow_setCell_other hO (a:=⟨W.heap.size,2,none⟩) hne (.slice a2 n k2)) HB1.o.size)
  have HC3:=aA (HC2.set 2 (.slice a2 n k2))
  have HB3:=aA ((bel HB1.o hb).setCell (p:=⟨W.heap.size,2,none⟩) (nLr _) (.slice a2 n k2))
  obtain⟨c0,c1,c2',c3⟩:=aC HC2
  have z2:=HC2.frozen 2
  have hz2:=HC2.lt
  obtain⟨d0,d1,d2,d3⟩:=aC HC3.o
  clear hb hO hne HC2
  go_wp2_with fail
  have hb4:=aD (V2.setCell ⟨W.heap.size,2,none⟩ (.slice a2 n k2)) (.cells (cd f d a2 n k2 out) 198)
  have hn:=aB.new (V2.setCell ⟨W.heap.size,2,none⟩ (.slice a2 n k2)) 198 (cd f d a2 n k2 out)
  rw[World.size_setCell] at hn
  have hlo:W.heap.size<=V2.heap.size:=by have:=HB3.o.size;rwa[World.size_setCell] at this
  exact bPr (v:=.tuple #[.pointer (some ⟨V2.heap.size,0,none⟩),.i 0]) (by simp[results,Tryz.results78,go_sem]) rfl ⟨bel HB3.o hb4,.inr ⟨H0.o,_,_,_,_,rfl,⟨hn,Cde.bH HO2.o hb4,hlo⟩⟩⟩
 ·unfold Vfy.VfP at HV
  obtain⟨er,her⟩:∃ er,bB f d L out=er:=⟨_,rfl⟩
  have HE:Hid (∀ e W',Below W.heap.size W W'->e=.returned (.tuple #[.pointer none,.i er])->NwP W f d L out e W'):=aA fun e W' hb he=>⟨hb,.inl ⟨h0,by rw[her];exact he⟩⟩
  have hr:(er != 0)=true:=by rw[<-her];simpa using h0
  rw[her] at HV
  generalize qG f d L out=vm at *
  generalize qF f d L out=vc at *
  generalize Vfy.qR f d L out=vs at *
  clear h0 her hL
  go_enter Tryz.func78,Tryz.ntmps78
  go_wp2_with fail
  refine HV.o.mono ?_
  rintro e V1 ⟨ga,gc,rfl,hS,hb,-,-⟩
  have HB1:=aA (bel HB0.o (bel hb (aD V1 (.cells #[.slice ga vm gc,.i vc,.i 0] 55))))
  clear hb hS HV HC0 HB0
  go_wp2_with fail
  exact bPr (v:=.tuple #[.pointer none,.i er]) (by simp[results,Tryz.results78,go_sem]) rfl (HE.o _ _ HB1.o rfl)
end Go.Proofs.Vmm
