/-
  No cell of these rows narrows 'for every input' (looked for: loops, veiled, ifaces, maps, wideKeys, modest, calm, conditions, laid).
  DERIVED. THE GIVEN ROWS OF THIS SEAT. 6 by the template 'for every input the law returns true; each argument reads behind the call as it read before'; 0 by the template 'total and deterministic' (their statements: YtinlknflkgijmaaTotals.lean).
  GIVEN WITH THE SEED: the statements are not yours to turn. If you find one false, say at which input.
  Laid BY PROGRAM, IN A SANDBOX (cutbox-rows.mjs): the forced cells as the released guide's own fill.sh prints them over the translation 36a50276ca21b5a7… (all of the seat's roots in one cut). By AI agents, Wed Nov 11 2026. No macro, syntax, notation, axiom, sorry.
-/
import Derived.Test.YtinlknflkgijmaaChecked
import GoSem.Claim
import GoSem.ClaimJoined
import GoSem.ClaimMapViews
import Derived.JoinedTies
import Derived.KernelRfl
namespace Go.Proofs.Ytinlknflkgijmaa
/- THE CELL 'sum', in the pinned program and in every row, IS THE sha256 OF THE DUMP (.gsa) THAT YtinlknflkgijmaaProg.lean LOADS. Nothing in Lean hashes anything: it is a label: what it is worth is what the hold of that sum in a sandbox is worth. -/
noncomputable def Try.pinned : Pinned := { name := "ytinlknflkgijmaa", sum := "36a50276ca21b5a792ffc22cfc79f907e7f88e2e2877ec5c0e23309252bed281", checked := Try.checked }
namespace Rows
def none {H : Type} : Left H := { results := [], args := [] }

/-- 'damasklaw03.KindBounds': WHATEVER THE INPUT: true; the input reads as it did. -/
def kindBoundsSpec : ChangeSpec := { name := "kindBounds", fn := fun _ => fun
  | [d] => { results := [.lit (.bool true)], args := [d] }
  | _ => none }
def kindBoundsRow : OpenClaim := { program := "ytinlknflkgijmaa", sum := "36a50276ca21b5a792ffc22cfc79f907e7f88e2e2877ec5c0e23309252bed281", func := "damask/damasklaw03.KindBounds", spec := "kindBounds", unfollowed := true, recurses := true, plainKeys := false, apart := false }
def KindBoundsSaid : Prop := kindBoundsRow.holds Try.pinned (OpenSpec.ofChange kindBoundsSpec)

/-- ITS FALSE NEIGHBOUR: 'it returns false'. Refute it at one input. -/
def kindBoundsWrong : ChangeSpec := { name := "kindBounds", fn := fun _ => fun
  | [d] => { results := [.lit (.bool false)], args := [d] }
  | _ => none }
def KindBoundsWrongFalsely : Prop := kindBoundsRow.holds Try.pinned (OpenSpec.ofChange kindBoundsWrong)

/-- 'damasklaw03.KindPlaces': WHATEVER THE INPUT: true; the input reads as it did. -/
def kindPlacesSpec : ChangeSpec := { name := "kindPlaces", fn := fun _ => fun
  | [d1, d2, d3] => { results := [.lit (.bool true)], args := [d1, d2, d3] }
  | _ => none }
def kindPlacesRow : OpenClaim := { program := "ytinlknflkgijmaa", sum := "36a50276ca21b5a792ffc22cfc79f907e7f88e2e2877ec5c0e23309252bed281", func := "damask/damasklaw03.KindPlaces", spec := "kindPlaces", unfollowed := true, recurses := true, plainKeys := false, apart := false }
def KindPlacesSaid : Prop := kindPlacesRow.holds Try.pinned (OpenSpec.ofChange kindPlacesSpec)

/-- ITS FALSE NEIGHBOUR: 'it returns false'. Refute it at one input. -/
def kindPlacesWrong : ChangeSpec := { name := "kindPlaces", fn := fun _ => fun
  | [d1, d2, d3] => { results := [.lit (.bool false)], args := [d1, d2, d3] }
  | _ => none }
def KindPlacesWrongFalsely : Prop := kindPlacesRow.holds Try.pinned (OpenSpec.ofChange kindPlacesWrong)

/-- 'damasklaw03.KindInputs': WHATEVER THE INPUT: true; the input reads as it did. -/
def kindInputsSpec : ChangeSpec := { name := "kindInputs", fn := fun _ => fun
  | [d1, d2] => { results := [.lit (.bool true)], args := [d1, d2] }
  | _ => none }
def kindInputsRow : OpenClaim := { program := "ytinlknflkgijmaa", sum := "36a50276ca21b5a792ffc22cfc79f907e7f88e2e2877ec5c0e23309252bed281", func := "damask/damasklaw03.KindInputs", spec := "kindInputs", unfollowed := true, recurses := true, plainKeys := false, apart := false }
def KindInputsSaid : Prop := kindInputsRow.holds Try.pinned (OpenSpec.ofChange kindInputsSpec)

/-- ITS FALSE NEIGHBOUR: 'it returns false'. Refute it at one input. -/
def kindInputsWrong : ChangeSpec := { name := "kindInputs", fn := fun _ => fun
  | [d1, d2] => { results := [.lit (.bool false)], args := [d1, d2] }
  | _ => none }
def KindInputsWrongFalsely : Prop := kindInputsRow.holds Try.pinned (OpenSpec.ofChange kindInputsWrong)

/-- 'damasklaw03.KindFits': WHATEVER THE INPUT: true; the input reads as it did. -/
def kindFitsSpec : ChangeSpec := { name := "kindFits", fn := fun _ => fun
  | [d1, d2] => { results := [.lit (.bool true)], args := [d1, d2] }
  | _ => none }
def kindFitsRow : OpenClaim := { program := "ytinlknflkgijmaa", sum := "36a50276ca21b5a792ffc22cfc79f907e7f88e2e2877ec5c0e23309252bed281", func := "damask/damasklaw03.KindFits", spec := "kindFits", unfollowed := true, recurses := true, plainKeys := false, apart := false }
def KindFitsSaid : Prop := kindFitsRow.holds Try.pinned (OpenSpec.ofChange kindFitsSpec)

/-- ITS FALSE NEIGHBOUR: 'it returns false'. Refute it at one input. -/
def kindFitsWrong : ChangeSpec := { name := "kindFits", fn := fun _ => fun
  | [d1, d2] => { results := [.lit (.bool false)], args := [d1, d2] }
  | _ => none }
def KindFitsWrongFalsely : Prop := kindFitsRow.holds Try.pinned (OpenSpec.ofChange kindFitsWrong)

/-- 'damasklaw03.KindCausal': WHATEVER THE INPUT: true; the input reads as it did. -/
def kindCausalSpec : ChangeSpec := { name := "kindCausal", fn := fun _ => fun
  | [d1, d2] => { results := [.lit (.bool true)], args := [d1, d2] }
  | _ => none }
def kindCausalRow : OpenClaim := { program := "ytinlknflkgijmaa", sum := "36a50276ca21b5a792ffc22cfc79f907e7f88e2e2877ec5c0e23309252bed281", func := "damask/damasklaw03.KindCausal", spec := "kindCausal", unfollowed := true, recurses := true, plainKeys := false, apart := false }
def KindCausalSaid : Prop := kindCausalRow.holds Try.pinned (OpenSpec.ofChange kindCausalSpec)

/-- ITS FALSE NEIGHBOUR: 'it returns false'. Refute it at one input. -/
def kindCausalWrong : ChangeSpec := { name := "kindCausal", fn := fun _ => fun
  | [d1, d2] => { results := [.lit (.bool false)], args := [d1, d2] }
  | _ => none }
def KindCausalWrongFalsely : Prop := kindCausalRow.holds Try.pinned (OpenSpec.ofChange kindCausalWrong)

/-- 'damasklaw03.KindRange': WHATEVER THE INPUT: true; the input reads as it did. -/
def kindRangeSpec : ChangeSpec := { name := "kindRange", fn := fun _ => fun
  | [d1, d2] => { results := [.lit (.bool true)], args := [d1, d2] }
  | _ => none }
def kindRangeRow : OpenClaim := { program := "ytinlknflkgijmaa", sum := "36a50276ca21b5a792ffc22cfc79f907e7f88e2e2877ec5c0e23309252bed281", func := "damask/damasklaw03.KindRange", spec := "kindRange", unfollowed := true, recurses := true, plainKeys := false, apart := false }
def KindRangeSaid : Prop := kindRangeRow.holds Try.pinned (OpenSpec.ofChange kindRangeSpec)

/-- ITS FALSE NEIGHBOUR: 'it returns false'. Refute it at one input. -/
def kindRangeWrong : ChangeSpec := { name := "kindRange", fn := fun _ => fun
  | [d1, d2] => { results := [.lit (.bool false)], args := [d1, d2] }
  | _ => none }
def KindRangeWrongFalsely : Prop := kindRangeRow.holds Try.pinned (OpenSpec.ofChange kindRangeWrong)

/- THE SECOND FORM. 'bulk': how many values and letters a reading holds, each counted each time it is reached (what is shared counts as often as it is met; a slice's spare places count too). A statement '..UptoSaid' is the law's where the arguments, and the package variables that the reading takes, are together of bulk at most 1048576: NARROWER than '..Said'. Prove '..Said' where nothing that the law and all that it calls make is longer than what came in: it says more and counts as full. Else prove '..UptoSaid'. A law counts once. -/
mutual
def uptoBulk {H : Type} : DataW H → Nat
  | .lit (.string bytes) => bytes.length + 1
  | .lit _ => 1
  | .nil => 1
  | .ptr d => uptoBulk d + 1
  | .slice elems spare => uptoBulkAll elems + uptoBulkAll spare + 1
  | .agg parts => uptoBulkAll parts + 1
  | .iface _ d => uptoBulk d + 1
  | .map entries => uptoBulkEntries entries + 1
  | .held _ => 1
def uptoBulkAll {H : Type} : List (DataW H) → Nat
  | [] => 0
  | d :: r => uptoBulk d + uptoBulkAll r
def uptoBulkEntries {H : Type} : List (Lit × DataW H) → Nat
  | [] => 0
  | x :: r => uptoBulkEntry x + uptoBulkEntries r
def uptoBulkEntry {H : Type} : Lit × DataW H → Nat
  | (.string bytes, d) => bytes.length + uptoBulk d + 1
  | (_, d) => uptoBulk d + 1
 end
def uptoSmall : (H : Type) → List (DataW H) → Bool := fun _ ds => decide (uptoBulkAll ds ≤ 1048576)
def OpenSpec.upto (s : _root_.Go.ChangeSpec) : _root_.Go.OpenSpec := { _root_.Go.OpenSpec.ofChange s with cond := some uptoSmall }

/-- 'damasklaw03.KindBounds', WHERE WHAT IT READS IS OF BULK AT MOST 1048576: true; the input reads as it did. -/
def kindBoundsUptoRow : OpenClaim := { program := "ytinlknflkgijmaa", sum := "36a50276ca21b5a792ffc22cfc79f907e7f88e2e2877ec5c0e23309252bed281", func := "damask/damasklaw03.KindBounds", spec := "kindBounds", unfollowed := true, recurses := true, plainKeys := false, apart := false, narrowed := true }
def KindBoundsUptoSaid : Prop := kindBoundsUptoRow.holds Try.pinned (OpenSpec.upto kindBoundsSpec)

/-- 'damasklaw03.KindPlaces', WHERE WHAT IT READS IS OF BULK AT MOST 1048576: true; the input reads as it did. -/
def kindPlacesUptoRow : OpenClaim := { program := "ytinlknflkgijmaa", sum := "36a50276ca21b5a792ffc22cfc79f907e7f88e2e2877ec5c0e23309252bed281", func := "damask/damasklaw03.KindPlaces", spec := "kindPlaces", unfollowed := true, recurses := true, plainKeys := false, apart := false, narrowed := true }
def KindPlacesUptoSaid : Prop := kindPlacesUptoRow.holds Try.pinned (OpenSpec.upto kindPlacesSpec)

/-- 'damasklaw03.KindInputs', WHERE WHAT IT READS IS OF BULK AT MOST 1048576: true; the input reads as it did. -/
def kindInputsUptoRow : OpenClaim := { program := "ytinlknflkgijmaa", sum := "36a50276ca21b5a792ffc22cfc79f907e7f88e2e2877ec5c0e23309252bed281", func := "damask/damasklaw03.KindInputs", spec := "kindInputs", unfollowed := true, recurses := true, plainKeys := false, apart := false, narrowed := true }
def KindInputsUptoSaid : Prop := kindInputsUptoRow.holds Try.pinned (OpenSpec.upto kindInputsSpec)

/-- 'damasklaw03.KindFits', WHERE WHAT IT READS IS OF BULK AT MOST 1048576: true; the input reads as it did. -/
def kindFitsUptoRow : OpenClaim := { program := "ytinlknflkgijmaa", sum := "36a50276ca21b5a792ffc22cfc79f907e7f88e2e2877ec5c0e23309252bed281", func := "damask/damasklaw03.KindFits", spec := "kindFits", unfollowed := true, recurses := true, plainKeys := false, apart := false, narrowed := true }
def KindFitsUptoSaid : Prop := kindFitsUptoRow.holds Try.pinned (OpenSpec.upto kindFitsSpec)

/-- 'damasklaw03.KindCausal', WHERE WHAT IT READS IS OF BULK AT MOST 1048576: true; the input reads as it did. -/
def kindCausalUptoRow : OpenClaim := { program := "ytinlknflkgijmaa", sum := "36a50276ca21b5a792ffc22cfc79f907e7f88e2e2877ec5c0e23309252bed281", func := "damask/damasklaw03.KindCausal", spec := "kindCausal", unfollowed := true, recurses := true, plainKeys := false, apart := false, narrowed := true }
def KindCausalUptoSaid : Prop := kindCausalUptoRow.holds Try.pinned (OpenSpec.upto kindCausalSpec)

/-- 'damasklaw03.KindRange', WHERE WHAT IT READS IS OF BULK AT MOST 1048576: true; the input reads as it did. -/
def kindRangeUptoRow : OpenClaim := { program := "ytinlknflkgijmaa", sum := "36a50276ca21b5a792ffc22cfc79f907e7f88e2e2877ec5c0e23309252bed281", func := "damask/damasklaw03.KindRange", spec := "kindRange", unfollowed := true, recurses := true, plainKeys := false, apart := false, narrowed := true }
def KindRangeUptoSaid : Prop := kindRangeUptoRow.holds Try.pinned (OpenSpec.upto kindRangeSpec)

end Rows
end Go.Proofs.Ytinlknflkgijmaa
