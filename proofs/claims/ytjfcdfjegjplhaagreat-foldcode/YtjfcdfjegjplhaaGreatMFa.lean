/-
  awake of the statements.
-/
import Derived.Test.YtjfcdfjegjplhaaGreatMFC
namespace Go.Proofs.Fld
open Go.RowKit Go.IntWalk YtjfcdfjegjplhaaGreat.Knd
open Cde (In i0 ia kd cd Ins is6)
open Vfy (vfE)
set_option linter.unusedVariables false

def awL : List In := [⟨1, 0, 0, 0, 2, 0⟩, ⟨1, 0, 0, 0, 3, 0⟩, ⟨10, 0, 1, 0, 0, 0⟩]
theorem aw_all : vfE 0 8 awL 2 = 0 ∧ foI 0 8 awL 2 = [⟨1, 0, 0, 0, 2, 0⟩, ⟨1, 0, 0, 0, 3, 0⟩, ⟨1, 0, 0, 0, 6, 0⟩] ∧ foU 0 8 awL 2 = 2 ∧ foK 0 8 awL 2 0 = 0 ∧ foK 0 8 awL 2 8 = 8 := by decide +kernel

set_option maxRecDepth 100000 in
set_option maxHeartbeats 4000000 in
theorem fawake_any (W : World) : Calls Tryz.prog 7 #[] W fun e w' => e = .returned (.bool true) ∧ Below W.heap.size W w' := by
  have HV := hide fun (V : World) (a : Option Addr) (h : Ins V a 3 3 awL) => ffold_any 0 8 2 h
  unfold FoP at HV
  rw [aw_all.1, aw_all.2.1, aw_all.2.2.1, aw_all.2.2.2.1, aw_all.2.2.2.2] at HV
  have HI := hide (Cde.has_ins (L := awL) (HasC.new W 39 (Cde.is6 awL).toArray) (by decide))
  have HB0 := hide (bel1 W (.cells (Cde.is6 awL).toArray 39))
  go_enter Tryz.func7, Tryz.ntmps7
  go_wp2_with fail
  refine (HV.out _ _ HI.out).mono ?_
  rintro e V1 ⟨a, cap, rfl, hO, hb⟩
  have HB1 := hide (bel HB0.out hb)
  obtain ⟨a', c', e', hI, -⟩ := Ins.of_owns hO
  cases e'
  obtain ⟨b, off, rfl, hlt, hcs⟩ := hI.at (by decide)
  obtain ⟨s0, s1, s2, s3, s4, s5⟩ := hcs 2 (by decide)
  change V1.cell? ⟨b, off + 12, none⟩ = some (.int .i64 1) at s0
  change V1.cell? ⟨b, off + 12 + 1, none⟩ = some (.int .i64 0) at s1
  change V1.cell? ⟨b, off + 12 + 2, none⟩ = some (.int .i64 0) at s2
  change V1.cell? ⟨b, off + 12 + 3, none⟩ = some (.int .i64 0) at s3
  change V1.cell? ⟨b, off + 12 + 4, none⟩ = some (.int .i64 6) at s4
  change V1.cell? ⟨b, off + 12 + 5, none⟩ = some (.int .i64 0) at s5
  simp only [List.length_cons, List.length_nil]
  have HB2 := hide (bel HB1.out (bel1 V1 (.cells (cd 0 8 (some ⟨b, off, none⟩) 3 cap 2) 26)))
  clear hb hI hO hcs HV HI HB0
  go_wp2_with fail
  go_ret
  exact ⟨rfl, HB2.out⟩

end Go.Proofs.Fld
