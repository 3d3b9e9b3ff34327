import Derived.Test.YticnbcfmbhjbgabGreatDoorXH
import Derived.Test.YticnbcfmbhjbgabGreatDoorX30
set_option maxRecDepth 100000
set_option maxHeartbeats 32000000
set_option linter.unusedVariables false
namespace Go.Proofs.Cpl
open Go.RowKit Go.IntWalk Knd
open YticnbcfmbhjbgabGreatDoor (Wd lF aB)
open Cde (cd)
theorem aPs (V:World):Calls Tryz.prog 12 #[.pointer none] V fun e W'=>e=.returned (.string ⟨#[]⟩)/\Below V.heap.size V W':=by
 go_enter Tryz.func12,Tryz.ntmps12
 go_wp2_with fail
 go_ret
 exact⟨rfl,Below.refl _ _⟩
theorem aMb (V:World):Calls Tryz.prog 13 #[.pointer none] V fun e W'=>e=.returned (.i 0)/\Below V.heap.size V W':=by
 go_enter Tryz.func13,Tryz.ntmps13
 go_wp2_with fail
 go_ret
 exact⟨rfl,Below.refl _ _⟩
theorem aNd (V:World):Calls Tryz.prog 14 #[.pointer none] V fun e W'=>e=.returned (.agg #[.i 0,.i 0])/\Below V.heap.size V W':=by
 have HB:=aA (aD V (.cells #[.i 0,.i 0] 35))
 go_enter Tryz.func14,Tryz.ntmps14
 go_wp2_with fail
 exact bPr (v:=.agg #[.i 0,.i 0]) (by simp[results,Tryz.results14,go_sem]) rfl ⟨rfl,HB.o⟩
theorem aL8 (V:World):Calls Tryz.prog 15 #[.pointer none] V fun e W'=>e=.returned (.agg (cd 0 0 none 0 0 0))/\Below V.heap.size V W':=by
 have HB:=aA (aD V (.cells (cd 0 0 none 0 0 0) 39))
 go_enter Tryz.func15,Tryz.ntmps15
 go_wp2_with fail
 exact bPr (v:=.agg (cd 0 0 none 0 0 0)) (by simp[results,Tryz.results15,go_sem]) rfl ⟨rfl,HB.o⟩
theorem aJh (V:World):Calls Tryz.prog 16 #[.pointer none] V fun e W'=>e=.returned (.slice none 0 0)/\Below V.heap.size V W':=by
 go_enter Tryz.func16,Tryz.ntmps16
 go_wp2_with fail
 go_ret
 exact⟨rfl,Below.refl _ _⟩
theorem aO9 (V:World):Calls Tryz.prog 17 #[.pointer none,.pointer none] V fun e W'=>e=.returned (.bool false)/\Below V.heap.size V W':=by
 go_enter Tryz.func17,Tryz.ntmps17
 go_wp2_with fail
 refine wp_region_quiet_below Cde.aWc (by kernel_rfl) ?_
 repeat (go_big_quiet_step (fail))
 refine wpQuiet_nil ?_
 intro V1 hw'
 obtain⟨⟨dq,osq⟩,hw⟩:=hw'
 have hb:=below_regrown V dq osq
 simp only at hw
 rw[<-hw] at hb
 have HB1:=aA hb
 clear hw hb
 go_wp2_with fail
 go_ret
 exact⟨rfl,HB1.o⟩
theorem aK2 (v:Wd)(pa:Option Addr)(pl pc:Nat)(V:World):Calls Tryz.prog 9 #[.pointer none,.agg (lF v pa pl pc)] V fun e W'=>e=.returned (.tuple #[.i 0,.i 0,.i 1])/\Below V.heap.size V W':=by
 have HB:=aA (aD V (.cells (lF v pa pl pc) 24))
 go_enter Tryz.func9,Tryz.ntmps9
 go_wp2_with fail
 exact bPr (v:=.tuple #[.i 0,.i 0,.i 1]) (by simp[results,Tryz.results9,go_sem]) rfl ⟨rfl,HB.o⟩
theorem aKi (v:Wd)(pa:Option Addr)(pl pc:Nat)(V:World):Calls Tryz.prog 10 #[.pointer none,.agg (lF v pa pl pc)] V fun e W'=>e=.returned (.tuple #[.i 0,.i 1])/\Below V.heap.size V W':=by
 have HB:=aA (aD V (.cells (lF v pa pl pc) 24))
 go_enter Tryz.func10,Tryz.ntmps10
 go_wp2_with fail
 go_ret2
 exact⟨rfl,HB.o⟩
end Go.Proofs.Cpl
