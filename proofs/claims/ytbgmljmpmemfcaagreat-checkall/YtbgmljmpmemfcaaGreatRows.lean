/-
  No cell of these rows narrows 'for every input' (looked for: loops, veiled, ifaces, maps, wideKeys, modest, calm, conditions, laid).
  DERIVED. THE GIVEN ROWS OF THIS SEAT. 5 by the template 'for every input the law returns true; each argument reads behind the call as it read before'; 0 by the template 'total and deterministic' (their statements: YtbgmljmpmemfcaaGreatTotals.lean).
  GIVEN WITH THE SEED: the statements are not yours to turn. If you find one false, say at which input.
  Laid BY PROGRAM, IN A SANDBOX (cutbox-rows.mjs): the forced cells as the released guide's own fill.sh prints them over the translation 9ecd37af2a690dc2… (all of the seat's roots in one cut). By AI agents, Wed Nov 11 2026. No macro, syntax, notation, axiom, sorry.
-/
import Derived.Test.YtbgmljmpmemfcaaGreatChecked
import GoSem.Claim
import GoSem.ClaimJoined
import GoSem.ClaimMapViews
import Derived.JoinedTies
import Derived.KernelRfl
namespace Go.Proofs.YtbgmljmpmemfcaaGreat
/- THE CELL 'sum', in the pinned program and in every row, IS THE sha256 OF THE DUMP (.gsa) THAT YtbgmljmpmemfcaaGreatProg.lean LOADS. Nothing in Lean hashes anything: it is a label: what it is worth is what the hold of that sum in a sandbox is worth. -/
noncomputable def Tryz.pinned : Pinned := { name := "ytbgmljmpmemfcaagreat", sum := "9ecd37af2a690dc2a1aece08f82f9d079415ad707e4c4e35a6d18a72ddcf6cf8", checked := Tryz.checked }
namespace Rows
def none {H : Type} : Left H := { results := [], args := [] }

/-- 'damasklaw09.CheckAll': WHATEVER THE INPUT: true; the input reads as it did. -/
def checkAllSpec : ChangeSpec := { name := "checkAll", fn := fun _ => fun
  | [d1, d2, d3] => { results := [.lit (.bool true)], args := [d1, d2, d3] }
  | _ => none }
def checkAllRow : OpenClaim := { program := "ytbgmljmpmemfcaagreat", sum := "9ecd37af2a690dc2a1aece08f82f9d079415ad707e4c4e35a6d18a72ddcf6cf8", func := "damask/damasklaw09.CheckAll", spec := "checkAll", inPlace := ["internal/bytealg.IndexByteString"], unfollowed := true, recurses := true, plainKeys := false, apart := false }
def CheckAllSaid : Prop := checkAllRow.holds Tryz.pinned (OpenSpec.ofChange checkAllSpec)

/-- ITS FALSE NEIGHBOUR: 'it returns false'. Refute it at one input. -/
def checkAllWrong : ChangeSpec := { name := "checkAll", fn := fun _ => fun
  | [d1, d2, d3] => { results := [.lit (.bool false)], args := [d1, d2, d3] }
  | _ => none }
def CheckAllWrongFalsely : Prop := checkAllRow.holds Tryz.pinned (OpenSpec.ofChange checkAllWrong)

/-- 'damasklaw09.CheckAhead': WHATEVER THE INPUT: true; the input reads as it did. -/
def checkAheadSpec : ChangeSpec := { name := "checkAhead", fn := fun _ => fun
  | [d1, d2] => { results := [.lit (.bool true)], args := [d1, d2] }
  | _ => none }
def checkAheadRow : OpenClaim := { program := "ytbgmljmpmemfcaagreat", sum := "9ecd37af2a690dc2a1aece08f82f9d079415ad707e4c4e35a6d18a72ddcf6cf8", func := "damask/damasklaw09.CheckAhead", spec := "checkAhead", inPlace := ["internal/bytealg.IndexByteString"], unfollowed := true, recurses := true, plainKeys := false, apart := false }
def CheckAheadSaid : Prop := checkAheadRow.holds Tryz.pinned (OpenSpec.ofChange checkAheadSpec)

/-- ITS FALSE NEIGHBOUR: 'it returns false'. Refute it at one input. -/
def checkAheadWrong : ChangeSpec := { name := "checkAhead", fn := fun _ => fun
  | [d1, d2] => { results := [.lit (.bool false)], args := [d1, d2] }
  | _ => none }
def CheckAheadWrongFalsely : Prop := checkAheadRow.holds Tryz.pinned (OpenSpec.ofChange checkAheadWrong)

/-- 'damasklaw09.CheckBinds': WHATEVER THE INPUT: true; the input reads as it did. -/
def checkBindsSpec : ChangeSpec := { name := "checkBinds", fn := fun _ => fun
  | [d1, d2] => { results := [.lit (.bool true)], args := [d1, d2] }
  | _ => none }
def checkBindsRow : OpenClaim := { program := "ytbgmljmpmemfcaagreat", sum := "9ecd37af2a690dc2a1aece08f82f9d079415ad707e4c4e35a6d18a72ddcf6cf8", func := "damask/damasklaw09.CheckBinds", spec := "checkBinds", inPlace := ["internal/bytealg.IndexByteString"], unfollowed := true, recurses := true, plainKeys := false, apart := false }
def CheckBindsSaid : Prop := checkBindsRow.holds Tryz.pinned (OpenSpec.ofChange checkBindsSpec)

/-- ITS FALSE NEIGHBOUR: 'it returns false'. Refute it at one input. -/
def checkBindsWrong : ChangeSpec := { name := "checkBinds", fn := fun _ => fun
  | [d1, d2] => { results := [.lit (.bool false)], args := [d1, d2] }
  | _ => none }
def CheckBindsWrongFalsely : Prop := checkBindsRow.holds Tryz.pinned (OpenSpec.ofChange checkBindsWrong)

/-- 'damasklaw09.CheckCost': WHATEVER THE INPUT: true; the input reads as it did. -/
def checkCostSpec : ChangeSpec := { name := "checkCost", fn := fun _ => fun
  | [d1, d2, d3] => { results := [.lit (.bool true)], args := [d1, d2, d3] }
  | _ => none }
def checkCostRow : OpenClaim := { program := "ytbgmljmpmemfcaagreat", sum := "9ecd37af2a690dc2a1aece08f82f9d079415ad707e4c4e35a6d18a72ddcf6cf8", func := "damask/damasklaw09.CheckCost", spec := "checkCost", inPlace := ["internal/bytealg.IndexByteString"], unfollowed := true, recurses := true, plainKeys := false, apart := false }
def CheckCostSaid : Prop := checkCostRow.holds Tryz.pinned (OpenSpec.ofChange checkCostSpec)

/-- ITS FALSE NEIGHBOUR: 'it returns false'. Refute it at one input. -/
def checkCostWrong : ChangeSpec := { name := "checkCost", fn := fun _ => fun
  | [d1, d2, d3] => { results := [.lit (.bool false)], args := [d1, d2, d3] }
  | _ => none }
def CheckCostWrongFalsely : Prop := checkCostRow.holds Tryz.pinned (OpenSpec.ofChange checkCostWrong)

/-- 'damasklaw09.CheckNarrow': WHATEVER THE INPUT: true; the input reads as it did. -/
def checkNarrowSpec : ChangeSpec := { name := "checkNarrow", fn := fun _ => fun
  | [d1, d2, d3, d4] => { results := [.lit (.bool true)], args := [d1, d2, d3, d4] }
  | _ => none }
def checkNarrowRow : OpenClaim := { program := "ytbgmljmpmemfcaagreat", sum := "9ecd37af2a690dc2a1aece08f82f9d079415ad707e4c4e35a6d18a72ddcf6cf8", func := "damask/damasklaw09.CheckNarrow", spec := "checkNarrow", inPlace := ["internal/bytealg.IndexByteString"], unfollowed := true, recurses := true, plainKeys := false, apart := false }
def CheckNarrowSaid : Prop := checkNarrowRow.holds Tryz.pinned (OpenSpec.ofChange checkNarrowSpec)

/-- ITS FALSE NEIGHBOUR: 'it returns false'. Refute it at one input. -/
def checkNarrowWrong : ChangeSpec := { name := "checkNarrow", fn := fun _ => fun
  | [d1, d2, d3, d4] => { results := [.lit (.bool false)], args := [d1, d2, d3, d4] }
  | _ => none }
def CheckNarrowWrongFalsely : Prop := checkNarrowRow.holds Tryz.pinned (OpenSpec.ofChange checkNarrowWrong)

/- THE SECOND FORM. 'bulk': how many values and letters a reading holds, each counted each time it is reached (what is shared counts as often as it is met; a slice's spare places count too). A statement '..UptoSaid' is the law's where the arguments, and the package variables that the reading takes, are together of bulk at most 1048576: NARROWER than '..Said'. Prove '..Said' where nothing that the law and all that it calls make is longer than what came in: it says more and counts as full. Else prove '..UptoSaid'. A law counts once. -/
mutual
def uptoBulk {H : Type} : DataW H → Nat
  | .lit (.string bytes) => bytes.length + 1
  | .lit _ => 1
  | .nil => 1
  | .ptr d => uptoBulk d + 1
  | .slice elems spare => uptoBulkAll elems + uptoBulkAll spare + 1
  | .agg parts => uptoBulkAll parts + 1
  | .iface _ d => uptoBulk d + 1
  | .map entries => uptoBulkEntries entries + 1
  | .held _ => 1
def uptoBulkAll {H : Type} : List (DataW H) → Nat
  | [] => 0
  | d :: r => uptoBulk d + uptoBulkAll r
def uptoBulkEntries {H : Type} : List (Lit × DataW H) → Nat
  | [] => 0
  | x :: r => uptoBulkEntry x + uptoBulkEntries r
def uptoBulkEntry {H : Type} : Lit × DataW H → Nat
  | (.string bytes, d) => bytes.length + uptoBulk d + 1
  | (_, d) => uptoBulk d + 1
 end
def uptoSmall : (H : Type) → List (DataW H) → Bool := fun _ ds => decide (uptoBulkAll ds ≤ 1048576)
def OpenSpec.upto (s : _root_.Go.ChangeSpec) : _root_.Go.OpenSpec := { _root_.Go.OpenSpec.ofChange s with cond := some uptoSmall }

/-- 'damasklaw09.CheckAll', WHERE WHAT IT READS IS OF BULK AT MOST 1048576: true; the input reads as it did. -/
def checkAllUptoRow : OpenClaim := { program := "ytbgmljmpmemfcaagreat", sum := "9ecd37af2a690dc2a1aece08f82f9d079415ad707e4c4e35a6d18a72ddcf6cf8", func := "damask/damasklaw09.CheckAll", spec := "checkAll", inPlace := ["internal/bytealg.IndexByteString"], unfollowed := true, recurses := true, plainKeys := false, apart := false, narrowed := true }
def CheckAllUptoSaid : Prop := checkAllUptoRow.holds Tryz.pinned (OpenSpec.upto checkAllSpec)

/-- 'damasklaw09.CheckAhead', WHERE WHAT IT READS IS OF BULK AT MOST 1048576: true; the input reads as it did. -/
def checkAheadUptoRow : OpenClaim := { program := "ytbgmljmpmemfcaagreat", sum := "9ecd37af2a690dc2a1aece08f82f9d079415ad707e4c4e35a6d18a72ddcf6cf8", func := "damask/damasklaw09.CheckAhead", spec := "checkAhead", inPlace := ["internal/bytealg.IndexByteString"], unfollowed := true, recurses := true, plainKeys := false, apart := false, narrowed := true }
def CheckAheadUptoSaid : Prop := checkAheadUptoRow.holds Tryz.pinned (OpenSpec.upto checkAheadSpec)

/-- 'damasklaw09.CheckBinds', WHERE WHAT IT READS IS OF BULK AT MOST 1048576: true; the input reads as it did. -/
def checkBindsUptoRow : OpenClaim := { program := "ytbgmljmpmemfcaagreat", sum := "9ecd37af2a690dc2a1aece08f82f9d079415ad707e4c4e35a6d18a72ddcf6cf8", func := "damask/damasklaw09.CheckBinds", spec := "checkBinds", inPlace := ["internal/bytealg.IndexByteString"], unfollowed := true, recurses := true, plainKeys := false, apart := false, narrowed := true }
def CheckBindsUptoSaid : Prop := checkBindsUptoRow.holds Tryz.pinned (OpenSpec.upto checkBindsSpec)

/-- 'damasklaw09.CheckCost', WHERE WHAT IT READS IS OF BULK AT MOST 1048576: true; the input reads as it did. -/
def checkCostUptoRow : OpenClaim := { program := "ytbgmljmpmemfcaagreat", sum := "9ecd37af2a690dc2a1aece08f82f9d079415ad707e4c4e35a6d18a72ddcf6cf8", func := "damask/damasklaw09.CheckCost", spec := "checkCost", inPlace := ["internal/bytealg.IndexByteString"], unfollowed := true, recurses := true, plainKeys := false, apart := false, narrowed := true }
def CheckCostUptoSaid : Prop := checkCostUptoRow.holds Tryz.pinned (OpenSpec.upto checkCostSpec)

/-- 'damasklaw09.CheckNarrow', WHERE WHAT IT READS IS OF BULK AT MOST 1048576: true; the input reads as it did. -/
def checkNarrowUptoRow : OpenClaim := { program := "ytbgmljmpmemfcaagreat", sum := "9ecd37af2a690dc2a1aece08f82f9d079415ad707e4c4e35a6d18a72ddcf6cf8", func := "damask/damasklaw09.CheckNarrow", spec := "checkNarrow", inPlace := ["internal/bytealg.IndexByteString"], unfollowed := true, recurses := true, plainKeys := false, apart := false, narrowed := true }
def CheckNarrowUptoSaid : Prop := checkNarrowUptoRow.holds Tryz.pinned (OpenSpec.upto checkNarrowSpec)

end Rows
end Go.Proofs.YtbgmljmpmemfcaaGreat
