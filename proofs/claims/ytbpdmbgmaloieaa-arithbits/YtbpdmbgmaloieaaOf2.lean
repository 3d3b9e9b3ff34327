/-
  The laws' own helper 'of': a value that there must be.
-/
import Derived.Test.YtbpdmbgmaloieaaOf
namespace Go.Proofs.Ytbpdmbgmaloieaa
open Go.RowKit Go.IntWalk
set_option linter.unusedVariables false

theorem of_any (op x : Int) (a : Option Addr) (n cap : Nat) (xs : List Int) (w : World) (h : Ints w a n cap xs) (hv : valZ op 0 0 xs = (x, 0)) :
    Calls Try.prog 18 #[.int .i64 op, .slice a n cap] w fun e w' => e = .returned (.tuple #[.int .i64 x, .bool true]) ∧ Below w.heap.size w w' := by
  have h2 := hide (value_any op 0 0 a n cap xs w h)
  rw [hv] at h2
  clear h hv
  go_enter Try.func18, Try.ntmps18
  go_wp2_with (go_at_call 16; refine h2.out.mono ?_; rintro e w2 ⟨rfl, hb⟩)
  go_ret2
  exact ⟨rfl, hb⟩

theorem of1 {op a x : Int} (hv : valZ op 0 0 [a] = (x, 0)) (w : World) (t : TypeId) :
    Calls Try.prog 18 #[.int .i64 op, .slice (some ⟨w.heap.size, 0, none⟩) 1 1] (w.alloc (.cells #[.int .i64 a] t)) fun r w' => r = .returned (.tuple #[.int .i64 x, .bool true]) ∧ Below w.heap.size w w' :=
  (of_any op x _ _ _ _ _ (lit1 w t a) hv).mono fun r w' ⟨h1, h2⟩ => ⟨h1, bel (bel1 w _) h2⟩
theorem of2 {op a b x : Int} (hv : valZ op 0 0 [a, b] = (x, 0)) (w : World) (t : TypeId) :
    Calls Try.prog 18 #[.int .i64 op, .slice (some ⟨w.heap.size, 0, none⟩) 2 2] (w.alloc (.cells #[.int .i64 a, .int .i64 b] t)) fun r w' => r = .returned (.tuple #[.int .i64 x, .bool true]) ∧ Below w.heap.size w w' :=
  (of_any op x _ _ _ _ _ (lit2 w t a b) hv).mono fun r w' ⟨h1, h2⟩ => ⟨h1, bel (bel1 w _) h2⟩
theorem of3 {op a b c x : Int} (hv : valZ op 0 0 [a, b, c] = (x, 0)) (w : World) (t : TypeId) :
    Calls Try.prog 18 #[.int .i64 op, .slice (some ⟨w.heap.size, 0, none⟩) 3 3] (w.alloc (.cells #[.int .i64 a, .int .i64 b, .int .i64 c] t)) fun r w' => r = .returned (.tuple #[.int .i64 x, .bool true]) ∧ Below w.heap.size w w' :=
  (of_any op x _ _ _ _ _ (lit3 w t a b c) hv).mono fun r w' ⟨h1, h2⟩ => ⟨h1, bel (bel1 w _) h2⟩

end Go.Proofs.Ytbpdmbgmaloieaa
