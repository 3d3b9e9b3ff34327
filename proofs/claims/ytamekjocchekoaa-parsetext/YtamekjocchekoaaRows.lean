/-
  No cell of these rows narrows 'for every input' (looked for: loops, veiled, ifaces, maps, wideKeys, modest, calm, conditions, laid).
  DERIVED. THE GIVEN ROWS OF THIS SEAT. 6 by the template 'for every input the law returns true; each argument reads behind the call as it read before'; 0 by the template 'total and deterministic' (their statements: YtamekjocchekoaaTotals.lean).
  GIVEN WITH THE SEED: the statements are not yours to turn. If you find one false, say at which input.
  Laid BY PROGRAM, IN A SANDBOX (cutbox-rows.mjs): the forced cells as the released guide's own fill.sh prints them over the translation 87b50fe8d5c19a94… (all of the seat's roots in one cut). By AI agents, Wed Nov 11 2026. No macro, syntax, notation, axiom, sorry.
-/
import Derived.Test.YtamekjocchekoaaChecked
import GoSem.Claim
import GoSem.ClaimJoined
import GoSem.ClaimMapViews
import Derived.JoinedTies
import Derived.KernelRfl
namespace Go.Proofs.Ytamekjocchekoaa
/- THE CELL 'sum', in the pinned program and in every row, IS THE sha256 OF THE DUMP (.gsa) THAT YtamekjocchekoaaProg.lean LOADS. Nothing in Lean hashes anything: it is a label: what it is worth is what the hold of that sum in a sandbox is worth. -/
noncomputable def Try.pinned : Pinned := { name := "ytamekjocchekoaa", sum := "87b50fe8d5c19a9433e598af94ff2f79176c0ac9049813fa525295aef12729ca", checked := Try.checked }
namespace Rows
def none {H : Type} : Left H := { results := [], args := [] }

/-- 'damasklaw07.ParseText': WHATEVER THE INPUT: true; the input reads as it did. -/
def parseTextSpec : ChangeSpec := { name := "parseText", fn := fun _ => fun
  | [d] => { results := [.lit (.bool true)], args := [d] }
  | _ => none }
def parseTextRow : OpenClaim := { program := "ytamekjocchekoaa", sum := "87b50fe8d5c19a9433e598af94ff2f79176c0ac9049813fa525295aef12729ca", func := "damask/damasklaw07.ParseText", spec := "parseText", inPlace := ["internal/bytealg.IndexByteString"], unfollowed := true, recurses := true, apart := false }
def ParseTextSaid : Prop := parseTextRow.holds Try.pinned (OpenSpec.ofChange parseTextSpec)

/-- ITS FALSE NEIGHBOUR: 'it returns false'. Refute it at one input. -/
def parseTextWrong : ChangeSpec := { name := "parseText", fn := fun _ => fun
  | [d] => { results := [.lit (.bool false)], args := [d] }
  | _ => none }
def ParseTextWrongFalsely : Prop := parseTextRow.holds Try.pinned (OpenSpec.ofChange parseTextWrong)

/-- 'damasklaw07.ParseNames': WHATEVER THE INPUT: true; the input reads as it did. -/
def parseNamesSpec : ChangeSpec := { name := "parseNames", fn := fun _ => fun
  | [d] => { results := [.lit (.bool true)], args := [d] }
  | _ => none }
def parseNamesRow : OpenClaim := { program := "ytamekjocchekoaa", sum := "87b50fe8d5c19a9433e598af94ff2f79176c0ac9049813fa525295aef12729ca", func := "damask/damasklaw07.ParseNames", spec := "parseNames", inPlace := ["internal/bytealg.IndexByteString"], unfollowed := true, recurses := true, apart := false }
def ParseNamesSaid : Prop := parseNamesRow.holds Try.pinned (OpenSpec.ofChange parseNamesSpec)

/-- ITS FALSE NEIGHBOUR: 'it returns false'. Refute it at one input. -/
def parseNamesWrong : ChangeSpec := { name := "parseNames", fn := fun _ => fun
  | [d] => { results := [.lit (.bool false)], args := [d] }
  | _ => none }
def ParseNamesWrongFalsely : Prop := parseNamesRow.holds Try.pinned (OpenSpec.ofChange parseNamesWrong)

/-- 'damasklaw07.ParseCheck': WHATEVER THE INPUT: true; the input reads as it did. -/
def parseCheckSpec : ChangeSpec := { name := "parseCheck", fn := fun _ => fun
  | [d] => { results := [.lit (.bool true)], args := [d] }
  | _ => none }
def parseCheckRow : OpenClaim := { program := "ytamekjocchekoaa", sum := "87b50fe8d5c19a9433e598af94ff2f79176c0ac9049813fa525295aef12729ca", func := "damask/damasklaw07.ParseCheck", spec := "parseCheck", inPlace := ["internal/bytealg.IndexByteString"], unfollowed := true, recurses := true, apart := false }
def ParseCheckSaid : Prop := parseCheckRow.holds Try.pinned (OpenSpec.ofChange parseCheckSpec)

/-- ITS FALSE NEIGHBOUR: 'it returns false'. Refute it at one input. -/
def parseCheckWrong : ChangeSpec := { name := "parseCheck", fn := fun _ => fun
  | [d] => { results := [.lit (.bool false)], args := [d] }
  | _ => none }
def ParseCheckWrongFalsely : Prop := parseCheckRow.holds Try.pinned (OpenSpec.ofChange parseCheckWrong)

/-- 'damasklaw07.ParseSound': WHATEVER THE INPUT: true; the input reads as it did. -/
def parseSoundSpec : ChangeSpec := { name := "parseSound", fn := fun _ => fun
  | [d] => { results := [.lit (.bool true)], args := [d] }
  | _ => none }
def parseSoundRow : OpenClaim := { program := "ytamekjocchekoaa", sum := "87b50fe8d5c19a9433e598af94ff2f79176c0ac9049813fa525295aef12729ca", func := "damask/damasklaw07.ParseSound", spec := "parseSound", inPlace := ["internal/bytealg.IndexByteString"], unfollowed := true, recurses := true, apart := false }
def ParseSoundSaid : Prop := parseSoundRow.holds Try.pinned (OpenSpec.ofChange parseSoundSpec)

/-- ITS FALSE NEIGHBOUR: 'it returns false'. Refute it at one input. -/
def parseSoundWrong : ChangeSpec := { name := "parseSound", fn := fun _ => fun
  | [d] => { results := [.lit (.bool false)], args := [d] }
  | _ => none }
def ParseSoundWrongFalsely : Prop := parseSoundRow.holds Try.pinned (OpenSpec.ofChange parseSoundWrong)

/-- 'damasklaw07.ParseDress': WHATEVER THE INPUT: true; the input reads as it did. -/
def parseDressSpec : ChangeSpec := { name := "parseDress", fn := fun _ => fun
  | [d1, d2] => { results := [.lit (.bool true)], args := [d1, d2] }
  | _ => none }
def parseDressRow : OpenClaim := { program := "ytamekjocchekoaa", sum := "87b50fe8d5c19a9433e598af94ff2f79176c0ac9049813fa525295aef12729ca", func := "damask/damasklaw07.ParseDress", spec := "parseDress", inPlace := ["internal/bytealg.IndexByteString"], unfollowed := true, recurses := true, apart := false }
def ParseDressSaid : Prop := parseDressRow.holds Try.pinned (OpenSpec.ofChange parseDressSpec)

/-- ITS FALSE NEIGHBOUR: 'it returns false'. Refute it at one input. -/
def parseDressWrong : ChangeSpec := { name := "parseDress", fn := fun _ => fun
  | [d1, d2] => { results := [.lit (.bool false)], args := [d1, d2] }
  | _ => none }
def ParseDressWrongFalsely : Prop := parseDressRow.holds Try.pinned (OpenSpec.ofChange parseDressWrong)

/-- 'damasklaw07.ParseJoins': WHATEVER THE INPUT: true; the input reads as it did. -/
def parseJoinsSpec : ChangeSpec := { name := "parseJoins", fn := fun _ => fun
  | [d1, d2, d3] => { results := [.lit (.bool true)], args := [d1, d2, d3] }
  | _ => none }
def parseJoinsRow : OpenClaim := { program := "ytamekjocchekoaa", sum := "87b50fe8d5c19a9433e598af94ff2f79176c0ac9049813fa525295aef12729ca", func := "damask/damasklaw07.ParseJoins", spec := "parseJoins", inPlace := ["internal/bytealg.IndexByteString"], unfollowed := true, recurses := true, apart := false }
def ParseJoinsSaid : Prop := parseJoinsRow.holds Try.pinned (OpenSpec.ofChange parseJoinsSpec)

/-- ITS FALSE NEIGHBOUR: 'it returns false'. Refute it at one input. -/
def parseJoinsWrong : ChangeSpec := { name := "parseJoins", fn := fun _ => fun
  | [d1, d2, d3] => { results := [.lit (.bool false)], args := [d1, d2, d3] }
  | _ => none }
def ParseJoinsWrongFalsely : Prop := parseJoinsRow.holds Try.pinned (OpenSpec.ofChange parseJoinsWrong)

/- THE SECOND FORM. 'bulk': how many values and letters a reading holds, each counted each time it is reached (what is shared counts as often as it is met; a slice's spare places count too). A statement '..UptoSaid' is the law's where the arguments, and the package variables that the reading takes, are together of bulk at most 1048576: NARROWER than '..Said'. Prove '..Said' where nothing that the law and all that it calls make is longer than what came in: it says more and counts as full. Else prove '..UptoSaid'. A law counts once. -/
mutual
def uptoBulk {H : Type} : DataW H → Nat
  | .lit (.string bytes) => bytes.length + 1
  | .lit _ => 1
  | .nil => 1
  | .ptr d => uptoBulk d + 1
  | .slice elems spare => uptoBulkAll elems + uptoBulkAll spare + 1
  | .agg parts => uptoBulkAll parts + 1
  | .iface _ d => uptoBulk d + 1
  | .map entries => uptoBulkEntries entries + 1
  | .held _ => 1
def uptoBulkAll {H : Type} : List (DataW H) → Nat
  | [] => 0
  | d :: r => uptoBulk d + uptoBulkAll r
def uptoBulkEntries {H : Type} : List (Lit × DataW H) → Nat
  | [] => 0
  | x :: r => uptoBulkEntry x + uptoBulkEntries r
def uptoBulkEntry {H : Type} : Lit × DataW H → Nat
  | (.string bytes, d) => bytes.length + uptoBulk d + 1
  | (_, d) => uptoBulk d + 1
 end
def uptoSmall : (H : Type) → List (DataW H) → Bool := fun _ ds => decide (uptoBulkAll ds ≤ 1048576)
def OpenSpec.upto (s : _root_.Go.ChangeSpec) : _root_.Go.OpenSpec := { _root_.Go.OpenSpec.ofChange s with cond := some uptoSmall }

/-- 'damasklaw07.ParseText', WHERE WHAT IT READS IS OF BULK AT MOST 1048576: true; the input reads as it did. -/
def parseTextUptoRow : OpenClaim := { program := "ytamekjocchekoaa", sum := "87b50fe8d5c19a9433e598af94ff2f79176c0ac9049813fa525295aef12729ca", func := "damask/damasklaw07.ParseText", spec := "parseText", inPlace := ["internal/bytealg.IndexByteString"], unfollowed := true, recurses := true, apart := false, narrowed := true }
def ParseTextUptoSaid : Prop := parseTextUptoRow.holds Try.pinned (OpenSpec.upto parseTextSpec)

/-- 'damasklaw07.ParseNames', WHERE WHAT IT READS IS OF BULK AT MOST 1048576: true; the input reads as it did. -/
def parseNamesUptoRow : OpenClaim := { program := "ytamekjocchekoaa", sum := "87b50fe8d5c19a9433e598af94ff2f79176c0ac9049813fa525295aef12729ca", func := "damask/damasklaw07.ParseNames", spec := "parseNames", inPlace := ["internal/bytealg.IndexByteString"], unfollowed := true, recurses := true, apart := false, narrowed := true }
def ParseNamesUptoSaid : Prop := parseNamesUptoRow.holds Try.pinned (OpenSpec.upto parseNamesSpec)

/-- 'damasklaw07.ParseCheck', WHERE WHAT IT READS IS OF BULK AT MOST 1048576: true; the input reads as it did. -/
def parseCheckUptoRow : OpenClaim := { program := "ytamekjocchekoaa", sum := "87b50fe8d5c19a9433e598af94ff2f79176c0ac9049813fa525295aef12729ca", func := "damask/damasklaw07.ParseCheck", spec := "parseCheck", inPlace := ["internal/bytealg.IndexByteString"], unfollowed := true, recurses := true, apart := false, narrowed := true }
def ParseCheckUptoSaid : Prop := parseCheckUptoRow.holds Try.pinned (OpenSpec.upto parseCheckSpec)

/-- 'damasklaw07.ParseSound', WHERE WHAT IT READS IS OF BULK AT MOST 1048576: true; the input reads as it did. -/
def parseSoundUptoRow : OpenClaim := { program := "ytamekjocchekoaa", sum := "87b50fe8d5c19a9433e598af94ff2f79176c0ac9049813fa525295aef12729ca", func := "damask/damasklaw07.ParseSound", spec := "parseSound", inPlace := ["internal/bytealg.IndexByteString"], unfollowed := true, recurses := true, apart := false, narrowed := true }
def ParseSoundUptoSaid : Prop := parseSoundUptoRow.holds Try.pinned (OpenSpec.upto parseSoundSpec)

/-- 'damasklaw07.ParseDress', WHERE WHAT IT READS IS OF BULK AT MOST 1048576: true; the input reads as it did. -/
def parseDressUptoRow : OpenClaim := { program := "ytamekjocchekoaa", sum := "87b50fe8d5c19a9433e598af94ff2f79176c0ac9049813fa525295aef12729ca", func := "damask/damasklaw07.ParseDress", spec := "parseDress", inPlace := ["internal/bytealg.IndexByteString"], unfollowed := true, recurses := true, apart := false, narrowed := true }
def ParseDressUptoSaid : Prop := parseDressUptoRow.holds Try.pinned (OpenSpec.upto parseDressSpec)

/-- 'damasklaw07.ParseJoins', WHERE WHAT IT READS IS OF BULK AT MOST 1048576: true; the input reads as it did. -/
def parseJoinsUptoRow : OpenClaim := { program := "ytamekjocchekoaa", sum := "87b50fe8d5c19a9433e598af94ff2f79176c0ac9049813fa525295aef12729ca", func := "damask/damasklaw07.ParseJoins", spec := "parseJoins", inPlace := ["internal/bytealg.IndexByteString"], unfollowed := true, recurses := true, apart := false, narrowed := true }
def ParseJoinsUptoSaid : Prop := parseJoinsUptoRow.holds Try.pinned (OpenSpec.upto parseJoinsSpec)

end Rows
end Go.Proofs.Ytamekjocchekoaa
