/-
  awake of the statements.
-/
import Derived.Test.YtlhbgkaknfhlnaaY3
namespace Go.Proofs.Vfy
open Go.RowKit Go.IntWalk Ytlhbgkaknfhlnaa.Knd
open Cde (In i0 ia kd cd Ins)
set_option linter.unusedVariables false

def awL : List In := [⟨3, 0, 0, 0, 16, 0⟩, ⟨5, 0, 0, 0, 0, 0⟩]
theorem aw_all : vfE 0 8 awL 1 = 0 ∧ vfN 0 8 awL 1 = 2 ∧ vfC 0 8 awL 1 = 2 ∧ vfS 0 8 awL 1 = [(0, 255), (-255, 0)] := by decide +kernel

set_option maxRecDepth 100000 in
set_option maxHeartbeats 4000000 in
theorem yawake_any (W : World) : Calls Try.prog 7 #[] W fun e w' => e = .returned (.bool true) ∧ Below W.heap.size W w' := by
  have HV := hide fun (V : World) (a : Option Addr) (h : Ins V a 2 2 awL) => yverify_any 0 8 1 h
  unfold VfP at HV
  rw [aw_all.1, aw_all.2.1, aw_all.2.2.1, aw_all.2.2.2] at HV
  have HI := hide (Cde.has_ins (L := awL) (HasC.new W 47 (Cde.is6 awL).toArray) (by decide))
  have HB0 := hide (bel1 W (.cells (Cde.is6 awL).toArray 47))
  go_enter Try.func7, Try.ntmps7
  go_wp2_with fail
  refine (HV.out _ _ HI.out).mono ?_
  rintro e V1 ⟨a, cap, rfl, hS, hb, -, -⟩
  have HB1 := hide (bel HB0.out hb)
  obtain ⟨b, off, rfl, -, hcs⟩ := hS.at (by decide)
  obtain ⟨s0, s1⟩ := hcs 1 (by decide)
  change V1.cell? ⟨b, off + 2, none⟩ = some (.int .i64 (-255)) at s0
  change V1.cell? ⟨b, off + 2 + 1, none⟩ = some (.int .i64 0) at s1
  have hlt : b < V1.heap.size := World.block_lt_of_cell? V1 _ s0
  have HB2 := hide (bel HB1.out (bel1 V1 (.cells #[.slice (some ⟨b, off, none⟩) 2 cap, .int .i64 2, .int .i64 0] 32)))
  clear hb hS hcs HV HI HB0
  go_wp2_with fail
  go_ret
  exact ⟨rfl, HB2.out⟩

end Go.Proofs.Vfy
