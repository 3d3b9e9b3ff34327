/-
  ChainNil's walk.
-/
import Derived.Test.YtihbhbeaihdgnaaMHE
namespace Go.Proofs.Chn
open Go.RowKit Go.IntWalk Ytihbhbeaihdgnaa.Knd
open Ytihbhbeaihdgnaa (Wd wdA)
open Cde (four_of)
set_option linter.unusedVariables false

set_option maxRecDepth 100000 in
set_option maxHeartbeats 4000000 in
theorem hnil_walk (v : Wd) {pa : Option Addr} {pl pc : Nat} {W : World} (hP : Ints W pa pl pc v.ps) :
    Calls Try.prog 4 #[.agg (wdA v pa pl pc)] W fun e w' => e = .returned (.bool true) ∧ Below W.heap.size W w' := by
  have HB0 := hide (bel1 W (.cells (wdA v pa pl pc) 29))
  have HR := hide fun w => hRun_nil v pa pl pc w
  have HA := hide fun w => hawake_any w
  go_enter Try.func4, Try.ntmps4
  go_wp2_with fail
  refine (HR.out _).mono ?_
  rintro e V1 ⟨rfl, hb⟩
  have HB1 := hide (bel HB0.out hb)
  clear hb HR HB0
  go_wp2_with fail
  refine (HA.out _).mono ?_
  rintro e V3 ⟨rfl, hb⟩
  have HB3 := hide (bel HB1.out hb)
  clear hb HA HB1
  go_wp2_with fail
  go_ret
  exact ⟨rfl, HB3.out⟩

end Go.Proofs.Chn
