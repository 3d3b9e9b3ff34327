/-
  No cell of these rows narrows 'for every input' (looked for: loops, veiled, ifaces, maps, wideKeys, modest, calm, conditions, laid).
  DERIVED. THE GIVEN ROWS OF THIS SEAT. 6 by the template 'for every input the law returns true; each argument reads behind the call as it read before'; 0 by the template 'total and deterministic' (their statements: YthkihmbgdfnofaaTotals.lean).
  GIVEN WITH THE SEED: the statements are not yours to turn. If you find one false, say at which input.
  Laid BY PROGRAM, IN A SANDBOX (cutbox-rows.mjs): the forced cells as the released guide's own fill.sh prints them over the translation c64f9f09ae5d6d8c… (all of the seat's roots in one cut). By AI agents, Wed Nov 11 2026. No macro, syntax, notation, axiom, sorry.
-/
import Derived.Test.YthkihmbgdfnofaaChecked
import GoSem.Claim
import GoSem.ClaimJoined
import GoSem.ClaimMapViews
import Derived.JoinedTies
import Derived.KernelRfl
namespace Go.Proofs.Ythkihmbgdfnofaa
/- THE CELL 'sum', in the pinned program and in every row, IS THE sha256 OF THE DUMP (.gsa) THAT YthkihmbgdfnofaaProg.lean LOADS. Nothing in Lean hashes anything: it is a label: what it is worth is what the hold of that sum in a sandbox is worth. -/
noncomputable def Try.pinned : Pinned := { name := "ythkihmbgdfnofaa", sum := "c64f9f09ae5d6d8cc0bd7edbdf47b38053dc6b7ec1a90621752259f1518c5973", checked := Try.checked }
namespace Rows
def none {H : Type} : Left H := { results := [], args := [] }

/-- 'damasklaw11.CodeCheck': WHATEVER THE INPUT: true; the input reads as it did. -/
def codeCheckSpec : ChangeSpec := { name := "codeCheck", fn := fun _ => fun
  | [d] => { results := [.lit (.bool true)], args := [d] }
  | _ => none }
def codeCheckRow : OpenClaim := { program := "ythkihmbgdfnofaa", sum := "c64f9f09ae5d6d8cc0bd7edbdf47b38053dc6b7ec1a90621752259f1518c5973", func := "damask/damasklaw11.CodeCheck", spec := "codeCheck", apart := false }
def CodeCheckSaid : Prop := codeCheckRow.holds Try.pinned (OpenSpec.ofChange codeCheckSpec)

/-- ITS FALSE NEIGHBOUR: 'it returns false'. Refute it at one input. -/
def codeCheckWrong : ChangeSpec := { name := "codeCheck", fn := fun _ => fun
  | [d] => { results := [.lit (.bool false)], args := [d] }
  | _ => none }
def CodeCheckWrongFalsely : Prop := codeCheckRow.holds Try.pinned (OpenSpec.ofChange codeCheckWrong)

/-- 'damasklaw11.CodeCounts': WHATEVER THE INPUT: true; the input reads as it did. -/
def codeCountsSpec : ChangeSpec := { name := "codeCounts", fn := fun _ => fun
  | [d] => { results := [.lit (.bool true)], args := [d] }
  | _ => none }
def codeCountsRow : OpenClaim := { program := "ythkihmbgdfnofaa", sum := "c64f9f09ae5d6d8cc0bd7edbdf47b38053dc6b7ec1a90621752259f1518c5973", func := "damask/damasklaw11.CodeCounts", spec := "codeCounts", apart := false }
def CodeCountsSaid : Prop := codeCountsRow.holds Try.pinned (OpenSpec.ofChange codeCountsSpec)

/-- ITS FALSE NEIGHBOUR: 'it returns false'. Refute it at one input. -/
def codeCountsWrong : ChangeSpec := { name := "codeCounts", fn := fun _ => fun
  | [d] => { results := [.lit (.bool false)], args := [d] }
  | _ => none }
def CodeCountsWrongFalsely : Prop := codeCountsRow.holds Try.pinned (OpenSpec.ofChange codeCountsWrong)

/-- 'damasklaw11.CodeValues': WHATEVER THE INPUT: true; the input reads as it did. -/
def codeValuesSpec : ChangeSpec := { name := "codeValues", fn := fun _ => fun
  | [d1, d2] => { results := [.lit (.bool true)], args := [d1, d2] }
  | _ => none }
def codeValuesRow : OpenClaim := { program := "ythkihmbgdfnofaa", sum := "c64f9f09ae5d6d8cc0bd7edbdf47b38053dc6b7ec1a90621752259f1518c5973", func := "damask/damasklaw11.CodeValues", spec := "codeValues", apart := false }
def CodeValuesSaid : Prop := codeValuesRow.holds Try.pinned (OpenSpec.ofChange codeValuesSpec)

/-- ITS FALSE NEIGHBOUR: 'it returns false'. Refute it at one input. -/
def codeValuesWrong : ChangeSpec := { name := "codeValues", fn := fun _ => fun
  | [d1, d2] => { results := [.lit (.bool false)], args := [d1, d2] }
  | _ => none }
def CodeValuesWrongFalsely : Prop := codeValuesRow.holds Try.pinned (OpenSpec.ofChange codeValuesWrong)

/-- 'damasklaw11.CodeSame': WHATEVER THE INPUT: true; the input reads as it did. -/
def codeSameSpec : ChangeSpec := { name := "codeSame", fn := fun _ => fun
  | [d1, d2, d3] => { results := [.lit (.bool true)], args := [d1, d2, d3] }
  | _ => none }
def codeSameRow : OpenClaim := { program := "ythkihmbgdfnofaa", sum := "c64f9f09ae5d6d8cc0bd7edbdf47b38053dc6b7ec1a90621752259f1518c5973", func := "damask/damasklaw11.CodeSame", spec := "codeSame", apart := false }
def CodeSameSaid : Prop := codeSameRow.holds Try.pinned (OpenSpec.ofChange codeSameSpec)

/-- ITS FALSE NEIGHBOUR: 'it returns false'. Refute it at one input. -/
def codeSameWrong : ChangeSpec := { name := "codeSame", fn := fun _ => fun
  | [d1, d2, d3] => { results := [.lit (.bool false)], args := [d1, d2, d3] }
  | _ => none }
def CodeSameWrongFalsely : Prop := codeSameRow.holds Try.pinned (OpenSpec.ofChange codeSameWrong)

/-- 'damasklaw11.CodeSteps': WHATEVER THE INPUT: true; the input reads as it did. -/
def codeStepsSpec : ChangeSpec := { name := "codeSteps", fn := fun _ => fun
  | [d1, d2] => { results := [.lit (.bool true)], args := [d1, d2] }
  | _ => none }
def codeStepsRow : OpenClaim := { program := "ythkihmbgdfnofaa", sum := "c64f9f09ae5d6d8cc0bd7edbdf47b38053dc6b7ec1a90621752259f1518c5973", func := "damask/damasklaw11.CodeSteps", spec := "codeSteps", apart := false }
def CodeStepsSaid : Prop := codeStepsRow.holds Try.pinned (OpenSpec.ofChange codeStepsSpec)

/-- ITS FALSE NEIGHBOUR: 'it returns false'. Refute it at one input. -/
def codeStepsWrong : ChangeSpec := { name := "codeSteps", fn := fun _ => fun
  | [d1, d2] => { results := [.lit (.bool false)], args := [d1, d2] }
  | _ => none }
def CodeStepsWrongFalsely : Prop := codeStepsRow.holds Try.pinned (OpenSpec.ofChange codeStepsWrong)

/-- 'damasklaw11.CodeCut': WHATEVER THE INPUT: true; the input reads as it did. -/
def codeCutSpec : ChangeSpec := { name := "codeCut", fn := fun _ => fun
  | [d1, d2, d3] => { results := [.lit (.bool true)], args := [d1, d2, d3] }
  | _ => none }
def codeCutRow : OpenClaim := { program := "ythkihmbgdfnofaa", sum := "c64f9f09ae5d6d8cc0bd7edbdf47b38053dc6b7ec1a90621752259f1518c5973", func := "damask/damasklaw11.CodeCut", spec := "codeCut", apart := false }
def CodeCutSaid : Prop := codeCutRow.holds Try.pinned (OpenSpec.ofChange codeCutSpec)

/-- ITS FALSE NEIGHBOUR: 'it returns false'. Refute it at one input. -/
def codeCutWrong : ChangeSpec := { name := "codeCut", fn := fun _ => fun
  | [d1, d2, d3] => { results := [.lit (.bool false)], args := [d1, d2, d3] }
  | _ => none }
def CodeCutWrongFalsely : Prop := codeCutRow.holds Try.pinned (OpenSpec.ofChange codeCutWrong)

/- THE SECOND FORM. 'bulk': how many values and letters a reading holds, each counted each time it is reached (what is shared counts as often as it is met; a slice's spare places count too). A statement '..UptoSaid' is the law's where the arguments, and the package variables that the reading takes, are together of bulk at most 1048576: NARROWER than '..Said'. Prove '..Said' where nothing that the law and all that it calls make is longer than what came in: it says more and counts as full. Else prove '..UptoSaid'. A law counts once. -/
mutual
def uptoBulk {H : Type} : DataW H → Nat
  | .lit (.string bytes) => bytes.length + 1
  | .lit _ => 1
  | .nil => 1
  | .ptr d => uptoBulk d + 1
  | .slice elems spare => uptoBulkAll elems + uptoBulkAll spare + 1
  | .agg parts => uptoBulkAll parts + 1
  | .iface _ d => uptoBulk d + 1
  | .map entries => uptoBulkEntries entries + 1
  | .held _ => 1
def uptoBulkAll {H : Type} : List (DataW H) → Nat
  | [] => 0
  | d :: r => uptoBulk d + uptoBulkAll r
def uptoBulkEntries {H : Type} : List (Lit × DataW H) → Nat
  | [] => 0
  | x :: r => uptoBulkEntry x + uptoBulkEntries r
def uptoBulkEntry {H : Type} : Lit × DataW H → Nat
  | (.string bytes, d) => bytes.length + uptoBulk d + 1
  | (_, d) => uptoBulk d + 1
 end
def uptoSmall : (H : Type) → List (DataW H) → Bool := fun _ ds => decide (uptoBulkAll ds ≤ 1048576)
def OpenSpec.upto (s : _root_.Go.ChangeSpec) : _root_.Go.OpenSpec := { _root_.Go.OpenSpec.ofChange s with cond := some uptoSmall }

/-- 'damasklaw11.CodeCheck', WHERE WHAT IT READS IS OF BULK AT MOST 1048576: true; the input reads as it did. -/
def codeCheckUptoRow : OpenClaim := { program := "ythkihmbgdfnofaa", sum := "c64f9f09ae5d6d8cc0bd7edbdf47b38053dc6b7ec1a90621752259f1518c5973", func := "damask/damasklaw11.CodeCheck", spec := "codeCheck", apart := false, narrowed := true }
def CodeCheckUptoSaid : Prop := codeCheckUptoRow.holds Try.pinned (OpenSpec.upto codeCheckSpec)

/-- 'damasklaw11.CodeCounts', WHERE WHAT IT READS IS OF BULK AT MOST 1048576: true; the input reads as it did. -/
def codeCountsUptoRow : OpenClaim := { program := "ythkihmbgdfnofaa", sum := "c64f9f09ae5d6d8cc0bd7edbdf47b38053dc6b7ec1a90621752259f1518c5973", func := "damask/damasklaw11.CodeCounts", spec := "codeCounts", apart := false, narrowed := true }
def CodeCountsUptoSaid : Prop := codeCountsUptoRow.holds Try.pinned (OpenSpec.upto codeCountsSpec)

/-- 'damasklaw11.CodeValues', WHERE WHAT IT READS IS OF BULK AT MOST 1048576: true; the input reads as it did. -/
def codeValuesUptoRow : OpenClaim := { program := "ythkihmbgdfnofaa", sum := "c64f9f09ae5d6d8cc0bd7edbdf47b38053dc6b7ec1a90621752259f1518c5973", func := "damask/damasklaw11.CodeValues", spec := "codeValues", apart := false, narrowed := true }
def CodeValuesUptoSaid : Prop := codeValuesUptoRow.holds Try.pinned (OpenSpec.upto codeValuesSpec)

/-- 'damasklaw11.CodeSame', WHERE WHAT IT READS IS OF BULK AT MOST 1048576: true; the input reads as it did. -/
def codeSameUptoRow : OpenClaim := { program := "ythkihmbgdfnofaa", sum := "c64f9f09ae5d6d8cc0bd7edbdf47b38053dc6b7ec1a90621752259f1518c5973", func := "damask/damasklaw11.CodeSame", spec := "codeSame", apart := false, narrowed := true }
def CodeSameUptoSaid : Prop := codeSameUptoRow.holds Try.pinned (OpenSpec.upto codeSameSpec)

/-- 'damasklaw11.CodeSteps', WHERE WHAT IT READS IS OF BULK AT MOST 1048576: true; the input reads as it did. -/
def codeStepsUptoRow : OpenClaim := { program := "ythkihmbgdfnofaa", sum := "c64f9f09ae5d6d8cc0bd7edbdf47b38053dc6b7ec1a90621752259f1518c5973", func := "damask/damasklaw11.CodeSteps", spec := "codeSteps", apart := false, narrowed := true }
def CodeStepsUptoSaid : Prop := codeStepsUptoRow.holds Try.pinned (OpenSpec.upto codeStepsSpec)

/-- 'damasklaw11.CodeCut', WHERE WHAT IT READS IS OF BULK AT MOST 1048576: true; the input reads as it did. -/
def codeCutUptoRow : OpenClaim := { program := "ythkihmbgdfnofaa", sum := "c64f9f09ae5d6d8cc0bd7edbdf47b38053dc6b7ec1a90621752259f1518c5973", func := "damask/damasklaw11.CodeCut", spec := "codeCut", apart := false, narrowed := true }
def CodeCutUptoSaid : Prop := codeCutUptoRow.holds Try.pinned (OpenSpec.upto codeCutSpec)

end Rows
end Go.Proofs.Ythkihmbgdfnofaa
