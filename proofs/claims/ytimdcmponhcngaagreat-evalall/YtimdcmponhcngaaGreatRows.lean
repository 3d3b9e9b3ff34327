/-
  No cell of these rows narrows 'for every input' (looked for: loops, veiled, ifaces, maps, wideKeys, modest, calm, conditions, laid).
  DERIVED. THE GIVEN ROWS OF THIS SEAT. 5 by the template 'for every input the law returns true; each argument reads behind the call as it read before'; 0 by the template 'total and deterministic' (their statements: YtimdcmponhcngaaGreatTotals.lean).
  GIVEN WITH THE SEED: the statements are not yours to turn. If you find one false, say at which input.
  Laid BY PROGRAM, IN A SANDBOX (cutbox-rows.mjs): the forced cells as the released guide's own fill.sh prints them over the translation 6ee6c015b509c26b… (all of the seat's roots in one cut). By AI agents, Wed Nov 11 2026. No macro, syntax, notation, axiom, sorry.
-/
import Derived.Test.YtimdcmponhcngaaGreatChecked
import GoSem.Claim
import GoSem.ClaimJoined
import GoSem.ClaimMapViews
import Derived.JoinedTies
import Derived.KernelRfl
namespace Go.Proofs.YtimdcmponhcngaaGreat
/- THE CELL 'sum', in the pinned program and in every row, IS THE sha256 OF THE DUMP (.gsa) THAT YtimdcmponhcngaaGreatProg.lean LOADS. Nothing in Lean hashes anything: it is a label: what it is worth is what the hold of that sum in a sandbox is worth. -/
noncomputable def Tryz.pinned : Pinned := { name := "ytimdcmponhcngaagreat", sum := "6ee6c015b509c26be41a4445ee52538ce8ece30462570fe92ce45513b8b36e33", checked := Tryz.checked }
namespace Rows
def none {H : Type} : Left H := { results := [], args := [] }

/-- 'damasklaw10.EvalAll': WHATEVER THE INPUT: true; the input reads as it did. -/
def evalAllSpec : ChangeSpec := { name := "evalAll", fn := fun _ => fun
  | [d1, d2, d3] => { results := [.lit (.bool true)], args := [d1, d2, d3] }
  | _ => none }
def evalAllRow : OpenClaim := { program := "ytimdcmponhcngaagreat", sum := "6ee6c015b509c26be41a4445ee52538ce8ece30462570fe92ce45513b8b36e33", func := "damask/damasklaw10.EvalAll", spec := "evalAll", inPlace := ["internal/bytealg.IndexByteString"], unfollowed := true, recurses := true, plainKeys := false, apart := false }
def EvalAllSaid : Prop := evalAllRow.holds Tryz.pinned (OpenSpec.ofChange evalAllSpec)

/-- ITS FALSE NEIGHBOUR: 'it returns false'. Refute it at one input. -/
def evalAllWrong : ChangeSpec := { name := "evalAll", fn := fun _ => fun
  | [d1, d2, d3] => { results := [.lit (.bool false)], args := [d1, d2, d3] }
  | _ => none }
def EvalAllWrongFalsely : Prop := evalAllRow.holds Tryz.pinned (OpenSpec.ofChange evalAllWrong)

/-- 'damasklaw10.EvalHolds': WHATEVER THE INPUT: true; the input reads as it did. -/
def evalHoldsSpec : ChangeSpec := { name := "evalHolds", fn := fun _ => fun
  | [d1, d2, d3] => { results := [.lit (.bool true)], args := [d1, d2, d3] }
  | _ => none }
def evalHoldsRow : OpenClaim := { program := "ytimdcmponhcngaagreat", sum := "6ee6c015b509c26be41a4445ee52538ce8ece30462570fe92ce45513b8b36e33", func := "damask/damasklaw10.EvalHolds", spec := "evalHolds", inPlace := ["internal/bytealg.IndexByteString"], unfollowed := true, recurses := true, plainKeys := false, apart := false }
def EvalHoldsSaid : Prop := evalHoldsRow.holds Tryz.pinned (OpenSpec.ofChange evalHoldsSpec)

/-- ITS FALSE NEIGHBOUR: 'it returns false'. Refute it at one input. -/
def evalHoldsWrong : ChangeSpec := { name := "evalHolds", fn := fun _ => fun
  | [d1, d2, d3] => { results := [.lit (.bool false)], args := [d1, d2, d3] }
  | _ => none }
def EvalHoldsWrongFalsely : Prop := evalHoldsRow.holds Tryz.pinned (OpenSpec.ofChange evalHoldsWrong)

/-- 'damasklaw10.EvalMeans': WHATEVER THE INPUT: true; the input reads as it did. -/
def evalMeansSpec : ChangeSpec := { name := "evalMeans", fn := fun _ => fun
  | [d1, d2, d3, d4, d5] => { results := [.lit (.bool true)], args := [d1, d2, d3, d4, d5] }
  | _ => none }
def evalMeansRow : OpenClaim := { program := "ytimdcmponhcngaagreat", sum := "6ee6c015b509c26be41a4445ee52538ce8ece30462570fe92ce45513b8b36e33", func := "damask/damasklaw10.EvalMeans", spec := "evalMeans", inPlace := ["internal/bytealg.IndexByteString"], unfollowed := true, recurses := true, plainKeys := false, apart := false }
def EvalMeansSaid : Prop := evalMeansRow.holds Tryz.pinned (OpenSpec.ofChange evalMeansSpec)

/-- ITS FALSE NEIGHBOUR: 'it returns false'. Refute it at one input. -/
def evalMeansWrong : ChangeSpec := { name := "evalMeans", fn := fun _ => fun
  | [d1, d2, d3, d4, d5] => { results := [.lit (.bool false)], args := [d1, d2, d3, d4, d5] }
  | _ => none }
def EvalMeansWrongFalsely : Prop := evalMeansRow.holds Tryz.pinned (OpenSpec.ofChange evalMeansWrong)

/-- 'damasklaw10.EvalLooks': WHATEVER THE INPUT: true; the input reads as it did. -/
def evalLooksSpec : ChangeSpec := { name := "evalLooks", fn := fun _ => fun
  | [d1, d2, d3] => { results := [.lit (.bool true)], args := [d1, d2, d3] }
  | _ => none }
def evalLooksRow : OpenClaim := { program := "ytimdcmponhcngaagreat", sum := "6ee6c015b509c26be41a4445ee52538ce8ece30462570fe92ce45513b8b36e33", func := "damask/damasklaw10.EvalLooks", spec := "evalLooks", inPlace := ["internal/bytealg.IndexByteString"], unfollowed := true, recurses := true, plainKeys := false, apart := false }
def EvalLooksSaid : Prop := evalLooksRow.holds Tryz.pinned (OpenSpec.ofChange evalLooksSpec)

/-- ITS FALSE NEIGHBOUR: 'it returns false'. Refute it at one input. -/
def evalLooksWrong : ChangeSpec := { name := "evalLooks", fn := fun _ => fun
  | [d1, d2, d3] => { results := [.lit (.bool false)], args := [d1, d2, d3] }
  | _ => none }
def EvalLooksWrongFalsely : Prop := evalLooksRow.holds Tryz.pinned (OpenSpec.ofChange evalLooksWrong)

/-- 'damasklaw10.EvalMedian': WHATEVER THE INPUT: true; the input reads as it did. -/
def evalMedianSpec : ChangeSpec := { name := "evalMedian", fn := fun _ => fun
  | [d1, d2, d3, d4] => { results := [.lit (.bool true)], args := [d1, d2, d3, d4] }
  | _ => none }
def evalMedianRow : OpenClaim := { program := "ytimdcmponhcngaagreat", sum := "6ee6c015b509c26be41a4445ee52538ce8ece30462570fe92ce45513b8b36e33", func := "damask/damasklaw10.EvalMedian", spec := "evalMedian", inPlace := ["internal/bytealg.IndexByteString"], unfollowed := true, recurses := true, plainKeys := false, apart := false }
def EvalMedianSaid : Prop := evalMedianRow.holds Tryz.pinned (OpenSpec.ofChange evalMedianSpec)

/-- ITS FALSE NEIGHBOUR: 'it returns false'. Refute it at one input. -/
def evalMedianWrong : ChangeSpec := { name := "evalMedian", fn := fun _ => fun
  | [d1, d2, d3, d4] => { results := [.lit (.bool false)], args := [d1, d2, d3, d4] }
  | _ => none }
def EvalMedianWrongFalsely : Prop := evalMedianRow.holds Tryz.pinned (OpenSpec.ofChange evalMedianWrong)

/- THE SECOND FORM. 'bulk': how many values and letters a reading holds, each counted each time it is reached (what is shared counts as often as it is met; a slice's spare places count too). A statement '..UptoSaid' is the law's where the arguments, and the package variables that the reading takes, are together of bulk at most 1048576: NARROWER than '..Said'. Prove '..Said' where nothing that the law and all that it calls make is longer than what came in: it says more and counts as full. Else prove '..UptoSaid'. A law counts once. -/
mutual
def uptoBulk {H : Type} : DataW H → Nat
  | .lit (.string bytes) => bytes.length + 1
  | .lit _ => 1
  | .nil => 1
  | .ptr d => uptoBulk d + 1
  | .slice elems spare => uptoBulkAll elems + uptoBulkAll spare + 1
  | .agg parts => uptoBulkAll parts + 1
  | .iface _ d => uptoBulk d + 1
  | .map entries => uptoBulkEntries entries + 1
  | .held _ => 1
def uptoBulkAll {H : Type} : List (DataW H) → Nat
  | [] => 0
  | d :: r => uptoBulk d + uptoBulkAll r
def uptoBulkEntries {H : Type} : List (Lit × DataW H) → Nat
  | [] => 0
  | x :: r => uptoBulkEntry x + uptoBulkEntries r
def uptoBulkEntry {H : Type} : Lit × DataW H → Nat
  | (.string bytes, d) => bytes.length + uptoBulk d + 1
  | (_, d) => uptoBulk d + 1
 end
def uptoSmall : (H : Type) → List (DataW H) → Bool := fun _ ds => decide (uptoBulkAll ds ≤ 1048576)
def OpenSpec.upto (s : _root_.Go.ChangeSpec) : _root_.Go.OpenSpec := { _root_.Go.OpenSpec.ofChange s with cond := some uptoSmall }

/-- 'damasklaw10.EvalAll', WHERE WHAT IT READS IS OF BULK AT MOST 1048576: true; the input reads as it did. -/
def evalAllUptoRow : OpenClaim := { program := "ytimdcmponhcngaagreat", sum := "6ee6c015b509c26be41a4445ee52538ce8ece30462570fe92ce45513b8b36e33", func := "damask/damasklaw10.EvalAll", spec := "evalAll", inPlace := ["internal/bytealg.IndexByteString"], unfollowed := true, recurses := true, plainKeys := false, apart := false, narrowed := true }
def EvalAllUptoSaid : Prop := evalAllUptoRow.holds Tryz.pinned (OpenSpec.upto evalAllSpec)

/-- 'damasklaw10.EvalHolds', WHERE WHAT IT READS IS OF BULK AT MOST 1048576: true; the input reads as it did. -/
def evalHoldsUptoRow : OpenClaim := { program := "ytimdcmponhcngaagreat", sum := "6ee6c015b509c26be41a4445ee52538ce8ece30462570fe92ce45513b8b36e33", func := "damask/damasklaw10.EvalHolds", spec := "evalHolds", inPlace := ["internal/bytealg.IndexByteString"], unfollowed := true, recurses := true, plainKeys := false, apart := false, narrowed := true }
def EvalHoldsUptoSaid : Prop := evalHoldsUptoRow.holds Tryz.pinned (OpenSpec.upto evalHoldsSpec)

/-- 'damasklaw10.EvalMeans', WHERE WHAT IT READS IS OF BULK AT MOST 1048576: true; the input reads as it did. -/
def evalMeansUptoRow : OpenClaim := { program := "ytimdcmponhcngaagreat", sum := "6ee6c015b509c26be41a4445ee52538ce8ece30462570fe92ce45513b8b36e33", func := "damask/damasklaw10.EvalMeans", spec := "evalMeans", inPlace := ["internal/bytealg.IndexByteString"], unfollowed := true, recurses := true, plainKeys := false, apart := false, narrowed := true }
def EvalMeansUptoSaid : Prop := evalMeansUptoRow.holds Tryz.pinned (OpenSpec.upto evalMeansSpec)

/-- 'damasklaw10.EvalLooks', WHERE WHAT IT READS IS OF BULK AT MOST 1048576: true; the input reads as it did. -/
def evalLooksUptoRow : OpenClaim := { program := "ytimdcmponhcngaagreat", sum := "6ee6c015b509c26be41a4445ee52538ce8ece30462570fe92ce45513b8b36e33", func := "damask/damasklaw10.EvalLooks", spec := "evalLooks", inPlace := ["internal/bytealg.IndexByteString"], unfollowed := true, recurses := true, plainKeys := false, apart := false, narrowed := true }
def EvalLooksUptoSaid : Prop := evalLooksUptoRow.holds Tryz.pinned (OpenSpec.upto evalLooksSpec)

/-- 'damasklaw10.EvalMedian', WHERE WHAT IT READS IS OF BULK AT MOST 1048576: true; the input reads as it did. -/
def evalMedianUptoRow : OpenClaim := { program := "ytimdcmponhcngaagreat", sum := "6ee6c015b509c26be41a4445ee52538ce8ece30462570fe92ce45513b8b36e33", func := "damask/damasklaw10.EvalMedian", spec := "evalMedian", inPlace := ["internal/bytealg.IndexByteString"], unfollowed := true, recurses := true, plainKeys := false, apart := false, narrowed := true }
def EvalMedianUptoSaid : Prop := evalMedianUptoRow.holds Tryz.pinned (OpenSpec.upto evalMedianSpec)

end Rows
end Go.Proofs.YtimdcmponhcngaaGreat
