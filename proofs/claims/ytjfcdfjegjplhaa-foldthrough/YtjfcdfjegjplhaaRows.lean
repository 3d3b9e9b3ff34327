/-
  No cell of these rows narrows 'for every input' (looked for: loops, veiled, ifaces, maps, wideKeys, modest, calm, conditions, laid).
  DERIVED. THE GIVEN ROWS OF THIS SEAT. 4 by the template 'for every input the law returns true; each argument reads behind the call as it read before'; 0 by the template 'total and deterministic' (their statements: YtjfcdfjegjplhaaTotals.lean).
  GIVEN WITH THE SEED: the statements are not yours to turn. If you find one false, say at which input.
  Laid BY PROGRAM, IN A SANDBOX (cutbox-rows.mjs): the forced cells as the released guide's own fill.sh prints them over the translation d886116abeae8c4b… (all of the seat's roots in one cut). By AI agents, Wed Nov 11 2026. No macro, syntax, notation, axiom, sorry.
-/
import Derived.Test.YtjfcdfjegjplhaaChecked
import GoSem.Claim
import GoSem.ClaimJoined
import GoSem.ClaimMapViews
import Derived.JoinedTies
import Derived.KernelRfl
namespace Go.Proofs.Ytjfcdfjegjplhaa
/- THE CELL 'sum', in the pinned program and in every row, IS THE sha256 OF THE DUMP (.gsa) THAT YtjfcdfjegjplhaaProg.lean LOADS. Nothing in Lean hashes anything: it is a label: what it is worth is what the hold of that sum in a sandbox is worth. -/
noncomputable def Try.pinned : Pinned := { name := "ytjfcdfjegjplhaa", sum := "d886116abeae8c4b19238cb4e3cf39a365e96fe07a3087d83df77e8c893f4ed7", checked := Try.checked }
namespace Rows
def none {H : Type} : Left H := { results := [], args := [] }

/-- 'damasklaw14.FoldThrough': WHATEVER THE INPUT: true; the input reads as it did. -/
def foldThroughSpec : ChangeSpec := { name := "foldThrough", fn := fun _ => fun
  | [d1, d2] => { results := [.lit (.bool true)], args := [d1, d2] }
  | _ => none }
def foldThroughRow : OpenClaim := { program := "ytjfcdfjegjplhaa", sum := "d886116abeae8c4b19238cb4e3cf39a365e96fe07a3087d83df77e8c893f4ed7", func := "damask/damasklaw14.FoldThrough", spec := "foldThrough", unfollowed := true, recurses := true, apart := false }
def FoldThroughSaid : Prop := foldThroughRow.holds Try.pinned (OpenSpec.ofChange foldThroughSpec)

/-- ITS FALSE NEIGHBOUR: 'it returns false'. Refute it at one input. -/
def foldThroughWrong : ChangeSpec := { name := "foldThrough", fn := fun _ => fun
  | [d1, d2] => { results := [.lit (.bool false)], args := [d1, d2] }
  | _ => none }
def FoldThroughWrongFalsely : Prop := foldThroughRow.holds Try.pinned (OpenSpec.ofChange foldThroughWrong)

/-- 'damasklaw14.FoldMeans': WHATEVER THE INPUT: true; the input reads as it did. -/
def foldMeansSpec : ChangeSpec := { name := "foldMeans", fn := fun _ => fun
  | [d1, d2] => { results := [.lit (.bool true)], args := [d1, d2] }
  | _ => none }
def foldMeansRow : OpenClaim := { program := "ytjfcdfjegjplhaa", sum := "d886116abeae8c4b19238cb4e3cf39a365e96fe07a3087d83df77e8c893f4ed7", func := "damask/damasklaw14.FoldMeans", spec := "foldMeans", unfollowed := true, recurses := true, apart := false }
def FoldMeansSaid : Prop := foldMeansRow.holds Try.pinned (OpenSpec.ofChange foldMeansSpec)

/-- ITS FALSE NEIGHBOUR: 'it returns false'. Refute it at one input. -/
def foldMeansWrong : ChangeSpec := { name := "foldMeans", fn := fun _ => fun
  | [d1, d2] => { results := [.lit (.bool false)], args := [d1, d2] }
  | _ => none }
def FoldMeansWrongFalsely : Prop := foldMeansRow.holds Try.pinned (OpenSpec.ofChange foldMeansWrong)

/-- 'damasklaw14.FoldKnown': WHATEVER THE INPUT: true; the input reads as it did. -/
def foldKnownSpec : ChangeSpec := { name := "foldKnown", fn := fun _ => fun
  | [d] => { results := [.lit (.bool true)], args := [d] }
  | _ => none }
def foldKnownRow : OpenClaim := { program := "ytjfcdfjegjplhaa", sum := "d886116abeae8c4b19238cb4e3cf39a365e96fe07a3087d83df77e8c893f4ed7", func := "damask/damasklaw14.FoldKnown", spec := "foldKnown", unfollowed := true, recurses := true, apart := false }
def FoldKnownSaid : Prop := foldKnownRow.holds Try.pinned (OpenSpec.ofChange foldKnownSpec)

/-- ITS FALSE NEIGHBOUR: 'it returns false'. Refute it at one input. -/
def foldKnownWrong : ChangeSpec := { name := "foldKnown", fn := fun _ => fun
  | [d] => { results := [.lit (.bool false)], args := [d] }
  | _ => none }
def FoldKnownWrongFalsely : Prop := foldKnownRow.holds Try.pinned (OpenSpec.ofChange foldKnownWrong)

/-- 'damasklaw14.FoldNumbers': WHATEVER THE INPUT: true; the input reads as it did. -/
def foldNumbersSpec : ChangeSpec := { name := "foldNumbers", fn := fun _ => fun
  | [d1, d2, d3, d4, d5, d6] => { results := [.lit (.bool true)], args := [d1, d2, d3, d4, d5, d6] }
  | _ => none }
def foldNumbersRow : OpenClaim := { program := "ytjfcdfjegjplhaa", sum := "d886116abeae8c4b19238cb4e3cf39a365e96fe07a3087d83df77e8c893f4ed7", func := "damask/damasklaw14.FoldNumbers", spec := "foldNumbers", unfollowed := true, recurses := true, apart := false }
def FoldNumbersSaid : Prop := foldNumbersRow.holds Try.pinned (OpenSpec.ofChange foldNumbersSpec)

/-- ITS FALSE NEIGHBOUR: 'it returns false'. Refute it at one input. -/
def foldNumbersWrong : ChangeSpec := { name := "foldNumbers", fn := fun _ => fun
  | [d1, d2, d3, d4, d5, d6] => { results := [.lit (.bool false)], args := [d1, d2, d3, d4, d5, d6] }
  | _ => none }
def FoldNumbersWrongFalsely : Prop := foldNumbersRow.holds Try.pinned (OpenSpec.ofChange foldNumbersWrong)

/- THE SECOND FORM. 'bulk': how many values and letters a reading holds, each counted each time it is reached (what is shared counts as often as it is met; a slice's spare places count too). A statement '..UptoSaid' is the law's where the arguments, and the package variables that the reading takes, are together of bulk at most 1048576: NARROWER than '..Said'. Prove '..Said' where nothing that the law and all that it calls make is longer than what came in: it says more and counts as full. Else prove '..UptoSaid'. A law counts once. -/
mutual
def uptoBulk {H : Type} : DataW H → Nat
  | .lit (.string bytes) => bytes.length + 1
  | .lit _ => 1
  | .nil => 1
  | .ptr d => uptoBulk d + 1
  | .slice elems spare => uptoBulkAll elems + uptoBulkAll spare + 1
  | .agg parts => uptoBulkAll parts + 1
  | .iface _ d => uptoBulk d + 1
  | .map entries => uptoBulkEntries entries + 1
  | .held _ => 1
def uptoBulkAll {H : Type} : List (DataW H) → Nat
  | [] => 0
  | d :: r => uptoBulk d + uptoBulkAll r
def uptoBulkEntries {H : Type} : List (Lit × DataW H) → Nat
  | [] => 0
  | x :: r => uptoBulkEntry x + uptoBulkEntries r
def uptoBulkEntry {H : Type} : Lit × DataW H → Nat
  | (.string bytes, d) => bytes.length + uptoBulk d + 1
  | (_, d) => uptoBulk d + 1
 end
def uptoSmall : (H : Type) → List (DataW H) → Bool := fun _ ds => decide (uptoBulkAll ds ≤ 1048576)
def OpenSpec.upto (s : _root_.Go.ChangeSpec) : _root_.Go.OpenSpec := { _root_.Go.OpenSpec.ofChange s with cond := some uptoSmall }

/-- 'damasklaw14.FoldThrough', WHERE WHAT IT READS IS OF BULK AT MOST 1048576: true; the input reads as it did. -/
def foldThroughUptoRow : OpenClaim := { program := "ytjfcdfjegjplhaa", sum := "d886116abeae8c4b19238cb4e3cf39a365e96fe07a3087d83df77e8c893f4ed7", func := "damask/damasklaw14.FoldThrough", spec := "foldThrough", unfollowed := true, recurses := true, apart := false, narrowed := true }
def FoldThroughUptoSaid : Prop := foldThroughUptoRow.holds Try.pinned (OpenSpec.upto foldThroughSpec)

/-- 'damasklaw14.FoldMeans', WHERE WHAT IT READS IS OF BULK AT MOST 1048576: true; the input reads as it did. -/
def foldMeansUptoRow : OpenClaim := { program := "ytjfcdfjegjplhaa", sum := "d886116abeae8c4b19238cb4e3cf39a365e96fe07a3087d83df77e8c893f4ed7", func := "damask/damasklaw14.FoldMeans", spec := "foldMeans", unfollowed := true, recurses := true, apart := false, narrowed := true }
def FoldMeansUptoSaid : Prop := foldMeansUptoRow.holds Try.pinned (OpenSpec.upto foldMeansSpec)

/-- 'damasklaw14.FoldKnown', WHERE WHAT IT READS IS OF BULK AT MOST 1048576: true; the input reads as it did. -/
def foldKnownUptoRow : OpenClaim := { program := "ytjfcdfjegjplhaa", sum := "d886116abeae8c4b19238cb4e3cf39a365e96fe07a3087d83df77e8c893f4ed7", func := "damask/damasklaw14.FoldKnown", spec := "foldKnown", unfollowed := true, recurses := true, apart := false, narrowed := true }
def FoldKnownUptoSaid : Prop := foldKnownUptoRow.holds Try.pinned (OpenSpec.upto foldKnownSpec)

/-- 'damasklaw14.FoldNumbers', WHERE WHAT IT READS IS OF BULK AT MOST 1048576: true; the input reads as it did. -/
def foldNumbersUptoRow : OpenClaim := { program := "ytjfcdfjegjplhaa", sum := "d886116abeae8c4b19238cb4e3cf39a365e96fe07a3087d83df77e8c893f4ed7", func := "damask/damasklaw14.FoldNumbers", spec := "foldNumbers", unfollowed := true, recurses := true, apart := false, narrowed := true }
def FoldNumbersUptoSaid : Prop := foldNumbersUptoRow.holds Try.pinned (OpenSpec.upto foldNumbersSpec)

end Rows
end Go.Proofs.Ytjfcdfjegjplhaa
