/-
  No cell of these rows narrows 'for every input' (looked for: loops, veiled, ifaces, maps, wideKeys, modest, calm, conditions, laid).
  DERIVED. THE GIVEN ROWS OF THIS SEAT. 5 by the template 'for every input the law returns true; each argument reads behind the call as it read before'; 0 by the template 'total and deterministic' (their statements: YtlpebmngjagbaaaTotals.lean).
  GIVEN WITH THE SEED: the statements are not yours to turn. If you find one false, say at which input.
  Laid BY PROGRAM, IN A SANDBOX (cutbox-rows.mjs): the forced cells as the released guide's own fill.sh prints them over the translation 82c5a1343c071107… (all of the seat's roots in one cut). By AI agents, Wed Nov 11 2026. No macro, syntax, notation, axiom, sorry.
-/
import Derived.Test.YtlpebmngjagbaaaChecked
import GoSem.Claim
import GoSem.ClaimJoined
import GoSem.ClaimMapViews
import Derived.JoinedTies
import Derived.KernelRfl
namespace Go.Proofs.Ytlpebmngjagbaaa
/- THE CELL 'sum', in the pinned program and in every row, IS THE sha256 OF THE DUMP (.gsa) THAT YtlpebmngjagbaaaProg.lean LOADS. Nothing in Lean hashes anything: it is a label: what it is worth is what the hold of that sum in a sandbox is worth. -/
noncomputable def Try.pinned : Pinned := { name := "ytlpebmngjagbaaa", sum := "82c5a1343c07110770ebe8eef677251a2aaae580f92a847316b6a3f215dd1ef7", checked := Try.checked }
namespace Rows
def none {H : Type} : Left H := { results := [], args := [] }

/-- 'damasklaw16.ReduceNumbers': WHATEVER THE INPUT: true; the input reads as it did. -/
def reduceNumbersSpec : ChangeSpec := { name := "reduceNumbers", fn := fun _ => fun
  | [d1, d2] => { results := [.lit (.bool true)], args := [d1, d2] }
  | _ => none }
def reduceNumbersRow : OpenClaim := { program := "ytlpebmngjagbaaa", sum := "82c5a1343c07110770ebe8eef677251a2aaae580f92a847316b6a3f215dd1ef7", func := "damask/damasklaw16.ReduceNumbers", spec := "reduceNumbers", unfollowed := true, recurses := true, apart := false }
def ReduceNumbersSaid : Prop := reduceNumbersRow.holds Try.pinned (OpenSpec.ofChange reduceNumbersSpec)

/-- ITS FALSE NEIGHBOUR: 'it returns false'. Refute it at one input. -/
def reduceNumbersWrong : ChangeSpec := { name := "reduceNumbers", fn := fun _ => fun
  | [d1, d2] => { results := [.lit (.bool false)], args := [d1, d2] }
  | _ => none }
def ReduceNumbersWrongFalsely : Prop := reduceNumbersRow.holds Try.pinned (OpenSpec.ofChange reduceNumbersWrong)

/-- 'damasklaw16.ReduceMagic': WHATEVER THE INPUT: true; the input reads as it did. -/
def reduceMagicSpec : ChangeSpec := { name := "reduceMagic", fn := fun _ => fun
  | [d1, d2, d3] => { results := [.lit (.bool true)], args := [d1, d2, d3] }
  | _ => none }
def reduceMagicRow : OpenClaim := { program := "ytlpebmngjagbaaa", sum := "82c5a1343c07110770ebe8eef677251a2aaae580f92a847316b6a3f215dd1ef7", func := "damask/damasklaw16.ReduceMagic", spec := "reduceMagic", unfollowed := true, recurses := true, apart := false }
def ReduceMagicSaid : Prop := reduceMagicRow.holds Try.pinned (OpenSpec.ofChange reduceMagicSpec)

/-- ITS FALSE NEIGHBOUR: 'it returns false'. Refute it at one input. -/
def reduceMagicWrong : ChangeSpec := { name := "reduceMagic", fn := fun _ => fun
  | [d1, d2, d3] => { results := [.lit (.bool false)], args := [d1, d2, d3] }
  | _ => none }
def ReduceMagicWrongFalsely : Prop := reduceMagicRow.holds Try.pinned (OpenSpec.ofChange reduceMagicWrong)

/-- 'damasklaw16.ReduceMeans': WHATEVER THE INPUT: true; the input reads as it did. -/
def reduceMeansSpec : ChangeSpec := { name := "reduceMeans", fn := fun _ => fun
  | [d1, d2] => { results := [.lit (.bool true)], args := [d1, d2] }
  | _ => none }
def reduceMeansRow : OpenClaim := { program := "ytlpebmngjagbaaa", sum := "82c5a1343c07110770ebe8eef677251a2aaae580f92a847316b6a3f215dd1ef7", func := "damask/damasklaw16.ReduceMeans", spec := "reduceMeans", unfollowed := true, recurses := true, apart := false }
def ReduceMeansSaid : Prop := reduceMeansRow.holds Try.pinned (OpenSpec.ofChange reduceMeansSpec)

/-- ITS FALSE NEIGHBOUR: 'it returns false'. Refute it at one input. -/
def reduceMeansWrong : ChangeSpec := { name := "reduceMeans", fn := fun _ => fun
  | [d1, d2] => { results := [.lit (.bool false)], args := [d1, d2] }
  | _ => none }
def ReduceMeansWrongFalsely : Prop := reduceMeansRow.holds Try.pinned (OpenSpec.ofChange reduceMeansWrong)

/-- 'damasklaw16.ReduceDivides': WHATEVER THE INPUT: true; the input reads as it did. -/
def reduceDividesSpec : ChangeSpec := { name := "reduceDivides", fn := fun _ => fun
  | [d1, d2, d3] => { results := [.lit (.bool true)], args := [d1, d2, d3] }
  | _ => none }
def reduceDividesRow : OpenClaim := { program := "ytlpebmngjagbaaa", sum := "82c5a1343c07110770ebe8eef677251a2aaae580f92a847316b6a3f215dd1ef7", func := "damask/damasklaw16.ReduceDivides", spec := "reduceDivides", unfollowed := true, recurses := true, apart := false }
def ReduceDividesSaid : Prop := reduceDividesRow.holds Try.pinned (OpenSpec.ofChange reduceDividesSpec)

/-- ITS FALSE NEIGHBOUR: 'it returns false'. Refute it at one input. -/
def reduceDividesWrong : ChangeSpec := { name := "reduceDivides", fn := fun _ => fun
  | [d1, d2, d3] => { results := [.lit (.bool false)], args := [d1, d2, d3] }
  | _ => none }
def ReduceDividesWrongFalsely : Prop := reduceDividesRow.holds Try.pinned (OpenSpec.ofChange reduceDividesWrong)

/-- 'damasklaw16.ReduceSamples': WHATEVER THE INPUT: true; the input reads as it did. -/
def reduceSamplesSpec : ChangeSpec := { name := "reduceSamples", fn := fun _ => fun
  | [d1, d2, d3] => { results := [.lit (.bool true)], args := [d1, d2, d3] }
  | _ => none }
def reduceSamplesRow : OpenClaim := { program := "ytlpebmngjagbaaa", sum := "82c5a1343c07110770ebe8eef677251a2aaae580f92a847316b6a3f215dd1ef7", func := "damask/damasklaw16.ReduceSamples", spec := "reduceSamples", unfollowed := true, recurses := true, apart := false }
def ReduceSamplesSaid : Prop := reduceSamplesRow.holds Try.pinned (OpenSpec.ofChange reduceSamplesSpec)

/-- ITS FALSE NEIGHBOUR: 'it returns false'. Refute it at one input. -/
def reduceSamplesWrong : ChangeSpec := { name := "reduceSamples", fn := fun _ => fun
  | [d1, d2, d3] => { results := [.lit (.bool false)], args := [d1, d2, d3] }
  | _ => none }
def ReduceSamplesWrongFalsely : Prop := reduceSamplesRow.holds Try.pinned (OpenSpec.ofChange reduceSamplesWrong)

/- THE SECOND FORM. 'bulk': how many values and letters a reading holds, each counted each time it is reached (what is shared counts as often as it is met; a slice's spare places count too). A statement '..UptoSaid' is the law's where the arguments, and the package variables that the reading takes, are together of bulk at most 1048576: NARROWER than '..Said'. Prove '..Said' where nothing that the law and all that it calls make is longer than what came in: it says more and counts as full. Else prove '..UptoSaid'. A law counts once. -/
mutual
def uptoBulk {H : Type} : DataW H → Nat
  | .lit (.string bytes) => bytes.length + 1
  | .lit _ => 1
  | .nil => 1
  | .ptr d => uptoBulk d + 1
  | .slice elems spare => uptoBulkAll elems + uptoBulkAll spare + 1
  | .agg parts => uptoBulkAll parts + 1
  | .iface _ d => uptoBulk d + 1
  | .map entries => uptoBulkEntries entries + 1
  | .held _ => 1
def uptoBulkAll {H : Type} : List (DataW H) → Nat
  | [] => 0
  | d :: r => uptoBulk d + uptoBulkAll r
def uptoBulkEntries {H : Type} : List (Lit × DataW H) → Nat
  | [] => 0
  | x :: r => uptoBulkEntry x + uptoBulkEntries r
def uptoBulkEntry {H : Type} : Lit × DataW H → Nat
  | (.string bytes, d) => bytes.length + uptoBulk d + 1
  | (_, d) => uptoBulk d + 1
 end
def uptoSmall : (H : Type) → List (DataW H) → Bool := fun _ ds => decide (uptoBulkAll ds ≤ 1048576)
def OpenSpec.upto (s : _root_.Go.ChangeSpec) : _root_.Go.OpenSpec := { _root_.Go.OpenSpec.ofChange s with cond := some uptoSmall }

/-- 'damasklaw16.ReduceNumbers', WHERE WHAT IT READS IS OF BULK AT MOST 1048576: true; the input reads as it did. -/
def reduceNumbersUptoRow : OpenClaim := { program := "ytlpebmngjagbaaa", sum := "82c5a1343c07110770ebe8eef677251a2aaae580f92a847316b6a3f215dd1ef7", func := "damask/damasklaw16.ReduceNumbers", spec := "reduceNumbers", unfollowed := true, recurses := true, apart := false, narrowed := true }
def ReduceNumbersUptoSaid : Prop := reduceNumbersUptoRow.holds Try.pinned (OpenSpec.upto reduceNumbersSpec)

/-- 'damasklaw16.ReduceMagic', WHERE WHAT IT READS IS OF BULK AT MOST 1048576: true; the input reads as it did. -/
def reduceMagicUptoRow : OpenClaim := { program := "ytlpebmngjagbaaa", sum := "82c5a1343c07110770ebe8eef677251a2aaae580f92a847316b6a3f215dd1ef7", func := "damask/damasklaw16.ReduceMagic", spec := "reduceMagic", unfollowed := true, recurses := true, apart := false, narrowed := true }
def ReduceMagicUptoSaid : Prop := reduceMagicUptoRow.holds Try.pinned (OpenSpec.upto reduceMagicSpec)

/-- 'damasklaw16.ReduceMeans', WHERE WHAT IT READS IS OF BULK AT MOST 1048576: true; the input reads as it did. -/
def reduceMeansUptoRow : OpenClaim := { program := "ytlpebmngjagbaaa", sum := "82c5a1343c07110770ebe8eef677251a2aaae580f92a847316b6a3f215dd1ef7", func := "damask/damasklaw16.ReduceMeans", spec := "reduceMeans", unfollowed := true, recurses := true, apart := false, narrowed := true }
def ReduceMeansUptoSaid : Prop := reduceMeansUptoRow.holds Try.pinned (OpenSpec.upto reduceMeansSpec)

/-- 'damasklaw16.ReduceDivides', WHERE WHAT IT READS IS OF BULK AT MOST 1048576: true; the input reads as it did. -/
def reduceDividesUptoRow : OpenClaim := { program := "ytlpebmngjagbaaa", sum := "82c5a1343c07110770ebe8eef677251a2aaae580f92a847316b6a3f215dd1ef7", func := "damask/damasklaw16.ReduceDivides", spec := "reduceDivides", unfollowed := true, recurses := true, apart := false, narrowed := true }
def ReduceDividesUptoSaid : Prop := reduceDividesUptoRow.holds Try.pinned (OpenSpec.upto reduceDividesSpec)

/-- 'damasklaw16.ReduceSamples', WHERE WHAT IT READS IS OF BULK AT MOST 1048576: true; the input reads as it did. -/
def reduceSamplesUptoRow : OpenClaim := { program := "ytlpebmngjagbaaa", sum := "82c5a1343c07110770ebe8eef677251a2aaae580f92a847316b6a3f215dd1ef7", func := "damask/damasklaw16.ReduceSamples", spec := "reduceSamples", unfollowed := true, recurses := true, apart := false, narrowed := true }
def ReduceSamplesUptoSaid : Prop := reduceSamplesUptoRow.holds Try.pinned (OpenSpec.upto reduceSamplesSpec)

end Rows
end Go.Proofs.Ytlpebmngjagbaaa
