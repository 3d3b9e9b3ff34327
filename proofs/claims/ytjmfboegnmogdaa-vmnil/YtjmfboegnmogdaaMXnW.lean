/-
  VmNil's walk.
-/
import Derived.Test.YtjmfboegnmogdaaMXE
namespace Go.Proofs.Vmm
open Go.RowKit Go.IntWalk Ytjmfboegnmogdaa.Knd
open Ytjmfboegnmogdaa (Wd wdA)
open Cde (four_of TwP)
set_option linter.unusedVariables false

set_option maxRecDepth 100000 in
set_option maxHeartbeats 4000000 in
theorem vnil_walk (v : Wd) {pa : Option Addr} {pl pc : Nat} {W : World} (hP : Ints W pa pl pc v.ps) :
    Calls Try.prog 4 #[.agg (wdA v pa pl pc)] W fun e w' => e = .returned (.bool true) ∧ Below W.heap.size W w' := by
  have HW0 := hide (HasC.new W 29 (wdA v pa pl pc))
  have HB0 := hide (bel1 W (.cells (wdA v pa pl pc) 29))
  have HR := hide fun w => mRun_nil v pa pl pc w
  have HT := hide fun w => mTrace_nil v pa pl pc w
  have HA := hide fun w => mawake_any w
  go_enter Try.func4, Try.ntmps4
  go_wp2_with fail
  refine (HR.out _).mono ?_
  rintro e V1 ⟨rfl, hb⟩
  have HW1 := hide (HW0.out.below hb)
  have HB1 := hide (bel HB0.out hb)
  obtain ⟨y0, y1, y2, y3⟩ := four_of HW1.out
  clear hb HR HW0 HB0
  go_wp2_with fail
  refine (HT.out _).mono ?_
  rintro e V2 ⟨la, lc, rfl, -, hb⟩
  have HB2 := hide (bel HB1.out hb)
  clear hb HT HB1 HW1 y0 y1 y2 y3
  go_wp2_with fail
  refine (HA.out _).mono ?_
  rintro e V3 ⟨rfl, hb⟩
  have HB3 := hide (bel HB2.out hb)
  clear hb HA HB2
  go_wp2_with fail
  go_ret
  exact ⟨rfl, HB3.out⟩

end Go.Proofs.Vmm
