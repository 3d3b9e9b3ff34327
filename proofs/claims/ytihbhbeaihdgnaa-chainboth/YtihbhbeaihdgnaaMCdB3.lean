/-
  code.Args and code.input.
-/
import Derived.Test.YtihbhbeaihdgnaaMCdA
import Derived.Test.YtihbhbeaihdgnaaMKnF
import Derived.Deep.RegionHeld3
namespace Go.Proofs.Cde
open Go.RowKit Go.IntWalk Ytihbhbeaihdgnaa.Knd
set_option linter.unusedVariables false

/-- How many registers an instruction reads, and which. -/
def arN (n : In) : Nat := (Ytihbhbeaihdgnaa.Spn.ar n.op).toNat
def abc (n : In) : List Int := [n.a, n.b, n.c]
def agL (n : In) : List Int := (abc n).take (arN n)
theorem arN_le (n : In) : arN n ≤ 3 := by have := Ytihbhbeaihdgnaa.Spn.ar_le n.op; unfold arN; omega
theorem agL_len (n : In) : (agL n).length = arN n := by have := arN_le n; simp [agL, abc]; omega
theorem arN_max (n : In) : max (Ytihbhbeaihdgnaa.Spn.ar n.op) 0 = (arN n : Int) := by unfold arN; omega
theorem ar_five (op : Int) : Ytihbhbeaihdgnaa.Spn.ar op = -1 ∨ Ytihbhbeaihdgnaa.Spn.ar op = 0 ∨ Ytihbhbeaihdgnaa.Spn.ar op = 1 ∨ Ytihbhbeaihdgnaa.Spn.ar op = 2 ∨ Ytihbhbeaihdgnaa.Spn.ar op = 3 := by
  unfold Ytihbhbeaihdgnaa.Spn.ar
  repeat' split
  all_goals omega
theorem abc_at (n : In) (j : Nat) (h : j < 3) : (abc n).getD j 0 = rgN n j := rfl

set_option maxRecDepth 100000 in
set_option maxHeartbeats 4000000 in
theorem cargs_any (n : In) (W : World) :
    Calls Try.prog 35 #[.agg (ia n)] W fun e W' => e = .returned (.slice (some ⟨W.heap.size + 1, 0, none⟩) (arN n) 3) ∧ HasC W' (W.heap.size + 1) 3 (zA (abc n)) ∧ Below W.heap.size W W' := by
  have HA := hide fun W => Ytihbhbeaihdgnaa.Spn.arity_any n.op W
  have HB := hide (bel1 W (.cells (ia n) 51))
  have HN0 := hide (HasC.new W 51 (ia n))
  obtain ⟨f0, f1, f2, f3, f4, f5⟩ := six_of (HasC.new W 51 (ia n))
  have hz : W.heap.size < (W.alloc (.cells (ia n) 51)).heap.size := by simp
  rcases ar_five n.op with h | h | h | h | h
  all_goals
    first
      | rw [show arN n = 0 by unfold arN; rw [h]; rfl]
      | rw [show arN n = 1 by unfold arN; rw [h]; rfl]
      | rw [show arN n = 2 by unfold arN; rw [h]; rfl]
      | rw [show arN n = 3 by unfold arN; rw [h]; rfl]
    rw [h] at HA
    clear h
    go_enter Try.func35, Try.ntmps35
    go_wp2_with fail
    go_region_held3 (fun w' => w'.cell? ⟨W.heap.size, 0, none⟩ = some (.int .i64 n.op) ∧ w'.cell? ⟨W.heap.size, 1, none⟩ = some (.int .i64 n.a) ∧ w'.cell? ⟨W.heap.size, 2, none⟩ = some (.int .i64 n.b) ∧ w'.cell? ⟨W.heap.size, 3, none⟩ = some (.int .i64 n.c))
      (first | exact ⟨f0, f1, f2, f3⟩ | go_keep)
      ((first
        | (go_at_call 40; refine (HA.out _).mono ?_; rintro e w2 ⟨rfl, rfl⟩)))
    all_goals
      have h5 := HasC.new (W.alloc (.cells (ia n) 51)) 3 (zA (abc n))
      rw [World.size_alloc] at h5
      have hb5 := (bel1 (W.alloc (.cells (ia n) 51)) (.cells (zA (abc n)) 3)).drew
      have HG := hide (h5.below (below_drew _))
      have HB1 := hide (bel HB.out hb5)
      clear h5 hb5
      go_wp2_with fail
      go_ret
      exact ⟨rfl, HG.out, HB1.out⟩

end Go.Proofs.Cde
