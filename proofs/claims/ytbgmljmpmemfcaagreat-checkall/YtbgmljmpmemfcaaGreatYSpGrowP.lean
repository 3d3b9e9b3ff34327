/-
 Narrower arguments have an answer too, and it lies within: on whole numbers.
-/
import Derived.Test.YtbgmljmpmemfcaaGreatYSpH
namespace Go.Proofs.YtbgmljmpmemfcaaGreat.Spn
open Go.RowKit Go.IntWalk
set_option linter.unusedVariables false

/-- The spans of the first list lie in those of the second. -/
def Sub : List (Int × Int) → List (Int × Int) → Prop
 | [], [] => True
 | q :: L', p :: L => (p.1 ≤ q.1 ∧ q.1 ≤ q.2 ∧ q.2 ≤ p.2) ∧ Sub L' L
 | _, _ => False

def Within (Z : (Int × Int) × Int) (lo hi : Int) : Prop := ∃ lo' hi', Z = ((lo', hi'), 0) ∧ lo ≤ lo' ∧ lo' ≤ hi' ∧ hi' ≤ hi

end Go.Proofs.YtbgmljmpmemfcaaGreat.Spn
