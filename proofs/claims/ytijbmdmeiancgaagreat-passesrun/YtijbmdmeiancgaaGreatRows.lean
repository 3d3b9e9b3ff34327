/-
  No cell of these rows narrows 'for every input' (looked for: loops, veiled, ifaces, maps, wideKeys, modest, calm, conditions, laid).
  DERIVED. THE GIVEN ROWS OF THIS SEAT. 4 by the template 'for every input the law returns true; each argument reads behind the call as it read before'; 0 by the template 'total and deterministic' (their statements: YtijbmdmeiancgaaGreatTotals.lean).
  GIVEN WITH THE SEED: the statements are not yours to turn. If you find one false, say at which input.
  Laid BY PROGRAM, IN A SANDBOX (cutbox-rows.mjs): the forced cells as the released guide's own fill.sh prints them over the translation 1aeec8fed10c6bfa… (all of the seat's roots in one cut). By AI agents, Wed Nov 11 2026. No macro, syntax, notation, axiom, sorry.
-/
import Derived.Test.YtijbmdmeiancgaaGreatChecked
import GoSem.Claim
import GoSem.ClaimJoined
import GoSem.ClaimMapViews
import Derived.JoinedTies
import Derived.KernelRfl
namespace Go.Proofs.YtijbmdmeiancgaaGreat
/- THE CELL 'sum', in the pinned program and in every row, IS THE sha256 OF THE DUMP (.gsa) THAT YtijbmdmeiancgaaGreatProg.lean LOADS. Nothing in Lean hashes anything: it is a label: what it is worth is what the hold of that sum in a sandbox is worth. -/
noncomputable def Tryz.pinned : Pinned := { name := "ytijbmdmeiancgaagreat", sum := "1aeec8fed10c6bfa4d32721655bedf2eeb0565d353fdfed099af30e8b28d676f", checked := Tryz.checked }
namespace Rows
def none {H : Type} : Left H := { results := [], args := [] }

/-- 'damasklaw18.PassesRun': WHATEVER THE INPUT: true; the input reads as it did. -/
def passesRunSpec : ChangeSpec := { name := "passesRun", fn := fun _ => fun
  | [d1, d2] => { results := [.lit (.bool true)], args := [d1, d2] }
  | _ => none }
def passesRunRow : OpenClaim := { program := "ytijbmdmeiancgaagreat", sum := "1aeec8fed10c6bfa4d32721655bedf2eeb0565d353fdfed099af30e8b28d676f", func := "damask/damasklaw18.PassesRun", spec := "passesRun", unfollowed := true, recurses := true, plainKeys := false, apart := false }
def PassesRunSaid : Prop := passesRunRow.holds Tryz.pinned (OpenSpec.ofChange passesRunSpec)

/-- ITS FALSE NEIGHBOUR: 'it returns false'. Refute it at one input. -/
def passesRunWrong : ChangeSpec := { name := "passesRun", fn := fun _ => fun
  | [d1, d2] => { results := [.lit (.bool false)], args := [d1, d2] }
  | _ => none }
def PassesRunWrongFalsely : Prop := passesRunRow.holds Tryz.pinned (OpenSpec.ofChange passesRunWrong)

/-- 'damasklaw18.PassesMean': WHATEVER THE INPUT: true; the input reads as it did. -/
def passesMeanSpec : ChangeSpec := { name := "passesMean", fn := fun _ => fun
  | [d1, d2, d3] => { results := [.lit (.bool true)], args := [d1, d2, d3] }
  | _ => none }
def passesMeanRow : OpenClaim := { program := "ytijbmdmeiancgaagreat", sum := "1aeec8fed10c6bfa4d32721655bedf2eeb0565d353fdfed099af30e8b28d676f", func := "damask/damasklaw18.PassesMean", spec := "passesMean", unfollowed := true, recurses := true, plainKeys := false, apart := false }
def PassesMeanSaid : Prop := passesMeanRow.holds Tryz.pinned (OpenSpec.ofChange passesMeanSpec)

/-- ITS FALSE NEIGHBOUR: 'it returns false'. Refute it at one input. -/
def passesMeanWrong : ChangeSpec := { name := "passesMean", fn := fun _ => fun
  | [d1, d2, d3] => { results := [.lit (.bool false)], args := [d1, d2, d3] }
  | _ => none }
def PassesMeanWrongFalsely : Prop := passesMeanRow.holds Tryz.pinned (OpenSpec.ofChange passesMeanWrong)

/-- 'damasklaw18.PassesCut': WHATEVER THE INPUT: true; the input reads as it did. -/
def passesCutSpec : ChangeSpec := { name := "passesCut", fn := fun _ => fun
  | [d1, d2, d3] => { results := [.lit (.bool true)], args := [d1, d2, d3] }
  | _ => none }
def passesCutRow : OpenClaim := { program := "ytijbmdmeiancgaagreat", sum := "1aeec8fed10c6bfa4d32721655bedf2eeb0565d353fdfed099af30e8b28d676f", func := "damask/damasklaw18.PassesCut", spec := "passesCut", unfollowed := true, recurses := true, plainKeys := false, apart := false }
def PassesCutSaid : Prop := passesCutRow.holds Tryz.pinned (OpenSpec.ofChange passesCutSpec)

/-- ITS FALSE NEIGHBOUR: 'it returns false'. Refute it at one input. -/
def passesCutWrong : ChangeSpec := { name := "passesCut", fn := fun _ => fun
  | [d1, d2, d3] => { results := [.lit (.bool false)], args := [d1, d2, d3] }
  | _ => none }
def PassesCutWrongFalsely : Prop := passesCutRow.holds Tryz.pinned (OpenSpec.ofChange passesCutWrong)

/-- 'damasklaw18.PassesLimit': WHATEVER THE INPUT: true; the input reads as it did. -/
def passesLimitSpec : ChangeSpec := { name := "passesLimit", fn := fun _ => fun
  | [d1, d2, d3] => { results := [.lit (.bool true)], args := [d1, d2, d3] }
  | _ => none }
def passesLimitRow : OpenClaim := { program := "ytijbmdmeiancgaagreat", sum := "1aeec8fed10c6bfa4d32721655bedf2eeb0565d353fdfed099af30e8b28d676f", func := "damask/damasklaw18.PassesLimit", spec := "passesLimit", unfollowed := true, recurses := true, plainKeys := false, apart := false }
def PassesLimitSaid : Prop := passesLimitRow.holds Tryz.pinned (OpenSpec.ofChange passesLimitSpec)

/-- ITS FALSE NEIGHBOUR: 'it returns false'. Refute it at one input. -/
def passesLimitWrong : ChangeSpec := { name := "passesLimit", fn := fun _ => fun
  | [d1, d2, d3] => { results := [.lit (.bool false)], args := [d1, d2, d3] }
  | _ => none }
def PassesLimitWrongFalsely : Prop := passesLimitRow.holds Tryz.pinned (OpenSpec.ofChange passesLimitWrong)

/- THE SECOND FORM. 'bulk': how many values and letters a reading holds, each counted each time it is reached (what is shared counts as often as it is met; a slice's spare places count too). A statement '..UptoSaid' is the law's where the arguments, and the package variables that the reading takes, are together of bulk at most 1048576: NARROWER than '..Said'. Prove '..Said' where nothing that the law and all that it calls make is longer than what came in: it says more and counts as full. Else prove '..UptoSaid'. A law counts once. -/
mutual
def uptoBulk {H : Type} : DataW H → Nat
  | .lit (.string bytes) => bytes.length + 1
  | .lit _ => 1
  | .nil => 1
  | .ptr d => uptoBulk d + 1
  | .slice elems spare => uptoBulkAll elems + uptoBulkAll spare + 1
  | .agg parts => uptoBulkAll parts + 1
  | .iface _ d => uptoBulk d + 1
  | .map entries => uptoBulkEntries entries + 1
  | .held _ => 1
def uptoBulkAll {H : Type} : List (DataW H) → Nat
  | [] => 0
  | d :: r => uptoBulk d + uptoBulkAll r
def uptoBulkEntries {H : Type} : List (Lit × DataW H) → Nat
  | [] => 0
  | x :: r => uptoBulkEntry x + uptoBulkEntries r
def uptoBulkEntry {H : Type} : Lit × DataW H → Nat
  | (.string bytes, d) => bytes.length + uptoBulk d + 1
  | (_, d) => uptoBulk d + 1
 end
def uptoSmall : (H : Type) → List (DataW H) → Bool := fun _ ds => decide (uptoBulkAll ds ≤ 1048576)
def OpenSpec.upto (s : _root_.Go.ChangeSpec) : _root_.Go.OpenSpec := { _root_.Go.OpenSpec.ofChange s with cond := some uptoSmall }

/-- 'damasklaw18.PassesRun', WHERE WHAT IT READS IS OF BULK AT MOST 1048576: true; the input reads as it did. -/
def passesRunUptoRow : OpenClaim := { program := "ytijbmdmeiancgaagreat", sum := "1aeec8fed10c6bfa4d32721655bedf2eeb0565d353fdfed099af30e8b28d676f", func := "damask/damasklaw18.PassesRun", spec := "passesRun", unfollowed := true, recurses := true, plainKeys := false, apart := false, narrowed := true }
def PassesRunUptoSaid : Prop := passesRunUptoRow.holds Tryz.pinned (OpenSpec.upto passesRunSpec)

/-- 'damasklaw18.PassesMean', WHERE WHAT IT READS IS OF BULK AT MOST 1048576: true; the input reads as it did. -/
def passesMeanUptoRow : OpenClaim := { program := "ytijbmdmeiancgaagreat", sum := "1aeec8fed10c6bfa4d32721655bedf2eeb0565d353fdfed099af30e8b28d676f", func := "damask/damasklaw18.PassesMean", spec := "passesMean", unfollowed := true, recurses := true, plainKeys := false, apart := false, narrowed := true }
def PassesMeanUptoSaid : Prop := passesMeanUptoRow.holds Tryz.pinned (OpenSpec.upto passesMeanSpec)

/-- 'damasklaw18.PassesCut', WHERE WHAT IT READS IS OF BULK AT MOST 1048576: true; the input reads as it did. -/
def passesCutUptoRow : OpenClaim := { program := "ytijbmdmeiancgaagreat", sum := "1aeec8fed10c6bfa4d32721655bedf2eeb0565d353fdfed099af30e8b28d676f", func := "damask/damasklaw18.PassesCut", spec := "passesCut", unfollowed := true, recurses := true, plainKeys := false, apart := false, narrowed := true }
def PassesCutUptoSaid : Prop := passesCutUptoRow.holds Tryz.pinned (OpenSpec.upto passesCutSpec)

/-- 'damasklaw18.PassesLimit', WHERE WHAT IT READS IS OF BULK AT MOST 1048576: true; the input reads as it did. -/
def passesLimitUptoRow : OpenClaim := { program := "ytijbmdmeiancgaagreat", sum := "1aeec8fed10c6bfa4d32721655bedf2eeb0565d353fdfed099af30e8b28d676f", func := "damask/damasklaw18.PassesLimit", spec := "passesLimit", unfollowed := true, recurses := true, plainKeys := false, apart := false, narrowed := true }
def PassesLimitUptoSaid : Prop := passesLimitUptoRow.holds Tryz.pinned (OpenSpec.upto passesLimitSpec)

end Rows
end Go.Proofs.YtijbmdmeiancgaaGreat
