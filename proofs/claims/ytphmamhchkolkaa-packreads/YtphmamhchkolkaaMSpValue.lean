/-
  arith.exact and arith.Value; a call over numbers written out.
-/
import Derived.Test.YtphmamhchkolkaaMSpVal
namespace Go.Proofs.Ytphmamhchkolkaa.Spn
open Go.RowKit Go.IntWalk
set_option linter.unusedVariables false

theorem ex_three (op k s x y z : Int) (ho : inB op 26 28 = true) : (ex op k s x y z).2 = 0 := by
  have h := inB_iff.1 ho
  rcases (show op = 26 ∨ op = 27 ∨ op = 28 by omega) with rfl | rfl | rfl <;> rfl

/-- What arith.Value answers. -/
def valZ (op k s : Int) (xs : List Int) : Int × Int :=
  if mayB op k s xs = true then
    (if (ex op k s (xs.getD 0 0) (xs.getD 1 0) (xs.getD 2 0)).2 = 0 then
      (if wd (ex op k s (xs.getD 0 0) (xs.getD 1 0) (xs.getD 2 0)).1 = true then ((ex op k s (xs.getD 0 0) (xs.getD 1 0) (xs.getD 2 0)).1, 0) else (0, 13))
    else (0, (ex op k s (xs.getD 0 0) (xs.getD 1 0) (xs.getD 2 0)).2))
  else (0, 1)

theorem lit1 (w : World) (t : TypeId) (x : Int) : Ints (w.alloc (.cells #[.int .i64 x] t)) (some ⟨w.heap.size, 0, none⟩) 1 1 [x] := by
  refine ⟨rfl, Nat.le_refl _, by decide, (fun h => by cases h), .inr ⟨_, _, rfl, fun i hi => ?_⟩⟩
  obtain rfl : i = 0 := by omega
  simp
theorem lit2 (w : World) (t : TypeId) (x y : Int) : Ints (w.alloc (.cells #[.int .i64 x, .int .i64 y] t)) (some ⟨w.heap.size, 0, none⟩) 2 2 [x, y] := by
  refine ⟨rfl, Nat.le_refl _, by decide, (fun h => by cases h), .inr ⟨_, _, rfl, fun i hi => ?_⟩⟩
  rcases (show i = 0 ∨ i = 1 by omega) with rfl | rfl <;> simp
theorem lit3 (w : World) (t : TypeId) (x y z : Int) : Ints (w.alloc (.cells #[.int .i64 x, .int .i64 y, .int .i64 z] t)) (some ⟨w.heap.size, 0, none⟩) 3 3 [x, y, z] := by
  refine ⟨rfl, Nat.le_refl _, by decide, (fun h => by cases h), .inr ⟨_, _, rfl, fun i hi => ?_⟩⟩
  rcases (show i = 0 ∨ i = 1 ∨ i = 2 by omega) with rfl | rfl | rfl <;> simp

end Go.Proofs.Ytphmamhchkolkaa.Spn
