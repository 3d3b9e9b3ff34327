/-
  The walk of SpanOf.
-/
import Derived.Test.YtbandppkhknaoaaQm
import Derived.Test.YtbandppkhknaoaaSpanOfV
namespace Go.Proofs.Ytbandppkhknaoaa
open Go.RowKit Go.IntWalk Go.Sort
set_option linter.unusedVariables false

/-- The document's Of. -/
theorem qof_any (op k s : Int) (a : Option Addr) (n cap : Nat) (L : List (Int × Int)) (w : World) (h : Spans w a n cap L) :
    Calls Try.prog 10 #[.int .i64 op, .int .i64 k, .int .i64 s, .slice a n cap] w fun r w' => r = .returned (spV (ofZ op k s L)) ∧ Below w.heap.size w w' :=
  qof_core op k s a n cap L w h fun hm => qplain_any op k s a n cap L hm

theorem spanOf_walk (op k s : Int) (a : Option Addr) (n cap : Nat) (L : List (Int × Int)) (w : World) (h : Spans w a n cap L) (hreach : n ≤ 8796093022000) :
    Calls Try.prog 3 #[.agg #[.int .i64 op, .int .i64 k, .int .i64 s, .slice a n cap]] w fun e w' => e = .returned (.bool true) ∧ Below w.heap.size w w' :=
  spanOf_core qof_any op k s a n cap L w h hreach

end Go.Proofs.Ytbandppkhknaoaa
