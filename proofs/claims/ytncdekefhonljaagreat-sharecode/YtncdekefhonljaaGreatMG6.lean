/-
  awake of the statements.
-/
import Derived.Test.YtncdekefhonljaaGreatMG5
namespace Go.Proofs.Shr
open Go.RowKit Go.IntWalk YtncdekefhonljaaGreat.Knd
open Cde (In i0 ia kd cd Ins is6)
open Vfy (vfE)
set_option linter.unusedVariables false

def awL : List In := [⟨3, 0, 0, 0, 16, 0⟩, ⟨3, 0, 0, 0, 10, 0⟩, ⟨8, 0, 1, 0, 0, 0⟩, ⟨8, 1, 0, 0, 0, 0⟩, ⟨9, 3, 2, 0, 0, 0⟩]
theorem aw_all : vfE 0 8 awL 4 = 0 ∧ foI 0 8 awL 4 = [⟨3, 0, 0, 0, 16, 0⟩, ⟨3, 0, 0, 0, 10, 0⟩, ⟨8, 0, 1, 0, 0, 0⟩, ⟨8, 0, 1, 0, 0, 0⟩, ⟨9, 2, 2, 0, 0, 0⟩] ∧ foU 0 8 awL 4 = 4 ∧ foK 0 8 awL 4 0 = 0 ∧ foK 0 8 awL 4 8 = 8 := by decide +kernel

set_option maxRecDepth 100000 in
set_option maxHeartbeats 4000000 in
theorem gawake_any (W : World) : Calls Tryz.prog 7 #[] W fun e w' => e = .returned (.bool true) ∧ Below W.heap.size W w' := by
  have HV := hide fun (V : World) (a : Option Addr) (h : Ins V a 5 5 awL) => gshare_any 0 8 4 h
  unfold FoP at HV
  rw [aw_all.1, aw_all.2.1, aw_all.2.2.1, aw_all.2.2.2.1, aw_all.2.2.2.2] at HV
  have HI := hide (Cde.has_ins (L := awL) (HasC.new W 39 (Cde.is6 awL).toArray) (by decide))
  have HB0 := hide (bel1 W (.cells (Cde.is6 awL).toArray 39))
  go_enter Tryz.func7, Tryz.ntmps7
  go_wp2_with fail
  refine (HV.out _ _ HI.out).mono ?_
  rintro e V1 ⟨a, cap, rfl, hO, hb⟩
  have HB1 := hide (bel HB0.out hb)
  obtain ⟨a', c', e', hI, -⟩ := Ins.of_owns hO
  cases e'
  obtain ⟨b, off, rfl, hlt, hcs⟩ := hI.at (by decide)
  obtain ⟨s0, s1, s2, s3, s4, s5⟩ := hcs 3 (by decide)
  change V1.cell? ⟨b, off + 18, none⟩ = some (.int .i64 8) at s0
  change V1.cell? ⟨b, off + 18 + 1, none⟩ = some (.int .i64 0) at s1
  change V1.cell? ⟨b, off + 18 + 2, none⟩ = some (.int .i64 1) at s2
  change V1.cell? ⟨b, off + 18 + 3, none⟩ = some (.int .i64 0) at s3
  change V1.cell? ⟨b, off + 18 + 4, none⟩ = some (.int .i64 0) at s4
  change V1.cell? ⟨b, off + 18 + 5, none⟩ = some (.int .i64 0) at s5
  obtain ⟨t0, t1, t2, t3, t4, t5⟩ := hcs 4 (by decide)
  change V1.cell? ⟨b, off + 24, none⟩ = some (.int .i64 9) at t0
  change V1.cell? ⟨b, off + 24 + 1, none⟩ = some (.int .i64 2) at t1
  change V1.cell? ⟨b, off + 24 + 2, none⟩ = some (.int .i64 2) at t2
  change V1.cell? ⟨b, off + 24 + 3, none⟩ = some (.int .i64 0) at t3
  change V1.cell? ⟨b, off + 24 + 4, none⟩ = some (.int .i64 0) at t4
  change V1.cell? ⟨b, off + 24 + 5, none⟩ = some (.int .i64 0) at t5
  simp only [List.length_cons, List.length_nil]
  have HB2 := hide (bel HB1.out (bel1 V1 (.cells (cd 0 8 (some ⟨b, off, none⟩) 5 cap 4) 26)))
  clear hb hI hO hcs HV HI HB0
  go_wp2_with fail
  go_ret
  exact ⟨rfl, HB2.out⟩

end Go.Proofs.Shr
