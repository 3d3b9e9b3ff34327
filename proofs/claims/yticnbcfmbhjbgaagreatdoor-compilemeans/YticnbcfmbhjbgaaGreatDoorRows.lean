/-
  NARROWER THAN 'FOR EVERY INPUT', by the rows' own cells (each row's printed sentence says how): CompileTexts: laid · CompileLoads: laid · CompileNames: laid · CompileMeans: laid · CompileBack: laid · CompileKinds: laid.
  DERIVED. THE GIVEN ROWS OF THIS SEAT. 6 by the template 'for every input the law returns true; each argument reads behind the call as it read before'; 0 by the template 'total and deterministic' (their statements: YticnbcfmbhjbgaaGreatDoorTotals.lean).
  GIVEN WITH THE SEED: the statements are not yours to turn. If you find one false, say at which input.
  Laid BY PROGRAM, IN A SANDBOX (cutbox-rows.mjs): the forced cells as the released guide's own fill.sh prints them over the translation c359dd10e32d7cb0… (all of the seat's roots in one cut). By AI agents, Wed Nov 11 2026. No macro, syntax, notation, axiom, sorry.
-/
import Derived.Test.YticnbcfmbhjbgaaGreatDoorChecked
import GoSem.Claim
import GoSem.ClaimJoined
import GoSem.ClaimMapViews
import Derived.JoinedTies
import Derived.KernelRfl
namespace Go.Proofs.YticnbcfmbhjbgaaGreatDoor
/- THE CELL 'sum', in the pinned program and in every row, IS THE sha256 OF THE DUMP (.gsa) THAT YticnbcfmbhjbgaaGreatDoorProg.lean LOADS. Nothing in Lean hashes anything: it is a label: what it is worth is what the hold of that sum in a sandbox is worth. -/
noncomputable def Tryz.pinned : Pinned := { name := "yticnbcfmbhjbgaagreatdoor", sum := "c359dd10e32d7cb0f9a07573a2d4c1c5992d74170ba73ed051a4739ac121c1d8", checked := Tryz.checked }
namespace Rows
def none {H : Type} : Left H := { results := [], args := [] }

/- WHAT THE LISTED PACKAGE-LEVEL VARIABLES READ AS WHEN THE CALL BEGINS. Each datum BY PROGRAM (the guide's laid-datum.mjs) off the statement by which the dump's own 'gosem.cut.vars' lays the variable. In a bare row this is a premise. The card (YticnbcfmbhjbgaaGreatDoorCards.lean) ties it to the program's text. -/
def laid_math_bits_deBruijn32tab {H : Type} : DataW H := .agg [.lit (.int .u8 0), .lit (.int .u8 1), .lit (.int .u8 28), .lit (.int .u8 2), .lit (.int .u8 29), .lit (.int .u8 14), .lit (.int .u8 24), .lit (.int .u8 3), .lit (.int .u8 30), .lit (.int .u8 22), .lit (.int .u8 20), .lit (.int .u8 15), .lit (.int .u8 25), .lit (.int .u8 17), .lit (.int .u8 4), .lit (.int .u8 8), .lit (.int .u8 31), .lit (.int .u8 27), .lit (.int .u8 13), .lit (.int .u8 23), .lit (.int .u8 21), .lit (.int .u8 19), .lit (.int .u8 16), .lit (.int .u8 7), .lit (.int .u8 26), .lit (.int .u8 12), .lit (.int .u8 18), .lit (.int .u8 6), .lit (.int .u8 11), .lit (.int .u8 5), .lit (.int .u8 10), .lit (.int .u8 9)]
def laid_math_bits_deBruijn64tab {H : Type} : DataW H := .agg [.lit (.int .u8 0), .lit (.int .u8 1), .lit (.int .u8 56), .lit (.int .u8 2), .lit (.int .u8 57), .lit (.int .u8 49), .lit (.int .u8 28), .lit (.int .u8 3), .lit (.int .u8 61), .lit (.int .u8 58), .lit (.int .u8 42), .lit (.int .u8 50), .lit (.int .u8 38), .lit (.int .u8 29), .lit (.int .u8 17), .lit (.int .u8 4), .lit (.int .u8 62), .lit (.int .u8 47), .lit (.int .u8 59), .lit (.int .u8 36), .lit (.int .u8 45), .lit (.int .u8 43), .lit (.int .u8 51), .lit (.int .u8 22), .lit (.int .u8 53), .lit (.int .u8 39), .lit (.int .u8 33), .lit (.int .u8 30), .lit (.int .u8 24), .lit (.int .u8 18), .lit (.int .u8 12), .lit (.int .u8 5), .lit (.int .u8 63), .lit (.int .u8 55), .lit (.int .u8 48), .lit (.int .u8 27), .lit (.int .u8 60), .lit (.int .u8 41), .lit (.int .u8 37), .lit (.int .u8 16), .lit (.int .u8 46), .lit (.int .u8 35), .lit (.int .u8 44), .lit (.int .u8 21), .lit (.int .u8 52), .lit (.int .u8 32), .lit (.int .u8 23), .lit (.int .u8 11), .lit (.int .u8 54), .lit (.int .u8 26), .lit (.int .u8 40), .lit (.int .u8 15), .lit (.int .u8 34), .lit (.int .u8 20), .lit (.int .u8 31), .lit (.int .u8 10), .lit (.int .u8 25), .lit (.int .u8 14), .lit (.int .u8 19), .lit (.int .u8 9), .lit (.int .u8 13), .lit (.int .u8 8), .lit (.int .u8 7), .lit (.int .u8 6)]
def laid_internal_strconv_uint64pow10 {H : Type} : DataW H := .agg [.lit (.int .u64 1), .lit (.int .u64 10), .lit (.int .u64 100), .lit (.int .u64 1000), .lit (.int .u64 10000), .lit (.int .u64 100000), .lit (.int .u64 1000000), .lit (.int .u64 10000000), .lit (.int .u64 100000000), .lit (.int .u64 1000000000), .lit (.int .u64 10000000000), .lit (.int .u64 100000000000), .lit (.int .u64 1000000000000), .lit (.int .u64 10000000000000), .lit (.int .u64 100000000000000), .lit (.int .u64 1000000000000000), .lit (.int .u64 10000000000000000), .lit (.int .u64 100000000000000000), .lit (.int .u64 1000000000000000000), .lit (.int .u64 10000000000000000000)]
def laid_damask_print_operators {H : Type} : DataW H := .agg [.agg [.lit (.string []), .lit (.int .i64 0)], .agg [.lit (.string []), .lit (.int .i64 9)], .agg [.lit (.string []), .lit (.int .i64 9)], .agg [.lit (.string []), .lit (.int .i64 9)], .agg [.lit (.string []), .lit (.int .i64 9)], .agg [.lit (.string []), .lit (.int .i64 8)], .agg [.lit (.string [97, 98, 115]), .lit (.int .i64 9)], .agg [.lit (.string [115, 103, 110]), .lit (.int .i64 9)], .agg [.lit (.string [43]), .lit (.int .i64 6)], .agg [.lit (.string [45]), .lit (.int .i64 6)], .agg [.lit (.string [42]), .lit (.int .i64 7)], .agg [.lit (.string [47]), .lit (.int .i64 7)], .agg [.lit (.string [37]), .lit (.int .i64 7)], .agg [.lit (.string [60, 60]), .lit (.int .i64 5)], .agg [.lit (.string [62, 62]), .lit (.int .i64 5)], .agg [.lit (.string [38]), .lit (.int .i64 3)], .agg [.lit (.string [124]), .lit (.int .i64 1)], .agg [.lit (.string [94]), .lit (.int .i64 2)], .agg [.lit (.string [60]), .lit (.int .i64 4)], .agg [.lit (.string [60, 61]), .lit (.int .i64 4)], .agg [.lit (.string [62]), .lit (.int .i64 4)], .agg [.lit (.string [62, 61]), .lit (.int .i64 4)], .agg [.lit (.string [61, 61]), .lit (.int .i64 4)], .agg [.lit (.string [33, 61]), .lit (.int .i64 4)], .agg [.lit (.string [109, 105, 110]), .lit (.int .i64 9)], .agg [.lit (.string [109, 97, 120]), .lit (.int .i64 9)], .agg [.lit (.string [99, 108, 97, 109, 112]), .lit (.int .i64 9)], .agg [.lit (.string [109, 101, 100]), .lit (.int .i64 9)], .agg [.lit (.string []), .lit (.int .i64 0)]]
def laid_damask_print_inputs {H : Type} : DataW H := .agg [.lit (.string [120]), .lit (.string [121]), .lit (.string [99]), .lit (.string [108, 111]), .lit (.string [104, 105]), .lit (.string [109, 105, 100])]

/-- 'damasklaw22.CompileTexts': WHATEVER THE INPUT: true; the input reads as it did. -/
def compileTextsSpec : ChangeSpec := { name := "compileTexts", fn := fun _ => fun
  | [d1, d2, d3] => { results := [.lit (.bool true)], args := [d1, d2, d3] }
  | _ => none }
def compileTextsRow : OpenClaim := { program := "yticnbcfmbhjbgaagreatdoor", sum := "c359dd10e32d7cb0f9a07573a2d4c1c5992d74170ba73ed051a4739ac121c1d8", func := "damask/damasklaw22.CompileTexts", spec := "compileTexts", inPlace := ["internal/bytealg.IndexByteString", "internal/abi.NoEscape"], unfollowed := true, recurses := true, named := ["damask/print.inputs", "internal/strconv.uint64pow10", "math/bits.deBruijn32tab", "math/bits.deBruijn64tab", "damask/print.operators"], plainKeys := false, apart := false, laid := [("math/bits.deBruijn32tab", laid_math_bits_deBruijn32tab), ("math/bits.deBruijn64tab", laid_math_bits_deBruijn64tab), ("internal/strconv.uint64pow10", laid_internal_strconv_uint64pow10), ("damask/print.operators", laid_damask_print_operators), ("damask/print.inputs", laid_damask_print_inputs)] }
def CompileTextsSaid : Prop := compileTextsRow.holds Tryz.pinned (OpenSpec.ofChange compileTextsSpec)

/-- ITS FALSE NEIGHBOUR: 'it returns false'. Refute it at one input. -/
def compileTextsWrong : ChangeSpec := { name := "compileTexts", fn := fun _ => fun
  | [d1, d2, d3] => { results := [.lit (.bool false)], args := [d1, d2, d3] }
  | _ => none }
def CompileTextsWrongFalsely : Prop := compileTextsRow.holds Tryz.pinned (OpenSpec.ofChange compileTextsWrong)

/-- 'damasklaw22.CompileLoads': WHATEVER THE INPUT: true; the input reads as it did. -/
def compileLoadsSpec : ChangeSpec := { name := "compileLoads", fn := fun _ => fun
  | [d1, d2, d3] => { results := [.lit (.bool true)], args := [d1, d2, d3] }
  | _ => none }
def compileLoadsRow : OpenClaim := { program := "yticnbcfmbhjbgaagreatdoor", sum := "c359dd10e32d7cb0f9a07573a2d4c1c5992d74170ba73ed051a4739ac121c1d8", func := "damask/damasklaw22.CompileLoads", spec := "compileLoads", inPlace := ["internal/bytealg.IndexByteString", "internal/abi.NoEscape"], unfollowed := true, recurses := true, named := ["damask/print.inputs", "internal/strconv.uint64pow10", "math/bits.deBruijn32tab", "math/bits.deBruijn64tab", "damask/print.operators"], plainKeys := false, apart := false, laid := [("math/bits.deBruijn32tab", laid_math_bits_deBruijn32tab), ("math/bits.deBruijn64tab", laid_math_bits_deBruijn64tab), ("internal/strconv.uint64pow10", laid_internal_strconv_uint64pow10), ("damask/print.operators", laid_damask_print_operators), ("damask/print.inputs", laid_damask_print_inputs)] }
def CompileLoadsSaid : Prop := compileLoadsRow.holds Tryz.pinned (OpenSpec.ofChange compileLoadsSpec)

/-- ITS FALSE NEIGHBOUR: 'it returns false'. Refute it at one input. -/
def compileLoadsWrong : ChangeSpec := { name := "compileLoads", fn := fun _ => fun
  | [d1, d2, d3] => { results := [.lit (.bool false)], args := [d1, d2, d3] }
  | _ => none }
def CompileLoadsWrongFalsely : Prop := compileLoadsRow.holds Tryz.pinned (OpenSpec.ofChange compileLoadsWrong)

/-- 'damasklaw22.CompileNames': WHATEVER THE INPUT: true; the input reads as it did. -/
def compileNamesSpec : ChangeSpec := { name := "compileNames", fn := fun _ => fun
  | [d1, d2] => { results := [.lit (.bool true)], args := [d1, d2] }
  | _ => none }
def compileNamesRow : OpenClaim := { program := "yticnbcfmbhjbgaagreatdoor", sum := "c359dd10e32d7cb0f9a07573a2d4c1c5992d74170ba73ed051a4739ac121c1d8", func := "damask/damasklaw22.CompileNames", spec := "compileNames", inPlace := ["internal/bytealg.IndexByteString", "internal/abi.NoEscape"], unfollowed := true, recurses := true, named := ["damask/print.inputs", "internal/strconv.uint64pow10", "math/bits.deBruijn32tab", "math/bits.deBruijn64tab", "damask/print.operators"], plainKeys := false, apart := false, laid := [("math/bits.deBruijn32tab", laid_math_bits_deBruijn32tab), ("math/bits.deBruijn64tab", laid_math_bits_deBruijn64tab), ("internal/strconv.uint64pow10", laid_internal_strconv_uint64pow10), ("damask/print.operators", laid_damask_print_operators), ("damask/print.inputs", laid_damask_print_inputs)] }
def CompileNamesSaid : Prop := compileNamesRow.holds Tryz.pinned (OpenSpec.ofChange compileNamesSpec)

/-- ITS FALSE NEIGHBOUR: 'it returns false'. Refute it at one input. -/
def compileNamesWrong : ChangeSpec := { name := "compileNames", fn := fun _ => fun
  | [d1, d2] => { results := [.lit (.bool false)], args := [d1, d2] }
  | _ => none }
def CompileNamesWrongFalsely : Prop := compileNamesRow.holds Tryz.pinned (OpenSpec.ofChange compileNamesWrong)

/-- 'damasklaw22.CompileMeans': WHATEVER THE INPUT: true; the input reads as it did. -/
def compileMeansSpec : ChangeSpec := { name := "compileMeans", fn := fun _ => fun
  | [d1, d2, d3] => { results := [.lit (.bool true)], args := [d1, d2, d3] }
  | _ => none }
def compileMeansRow : OpenClaim := { program := "yticnbcfmbhjbgaagreatdoor", sum := "c359dd10e32d7cb0f9a07573a2d4c1c5992d74170ba73ed051a4739ac121c1d8", func := "damask/damasklaw22.CompileMeans", spec := "compileMeans", inPlace := ["internal/bytealg.IndexByteString", "internal/abi.NoEscape"], unfollowed := true, recurses := true, named := ["damask/print.inputs", "internal/strconv.uint64pow10", "math/bits.deBruijn32tab", "math/bits.deBruijn64tab", "damask/print.operators"], plainKeys := false, apart := false, laid := [("math/bits.deBruijn32tab", laid_math_bits_deBruijn32tab), ("math/bits.deBruijn64tab", laid_math_bits_deBruijn64tab), ("internal/strconv.uint64pow10", laid_internal_strconv_uint64pow10), ("damask/print.operators", laid_damask_print_operators), ("damask/print.inputs", laid_damask_print_inputs)] }
def CompileMeansSaid : Prop := compileMeansRow.holds Tryz.pinned (OpenSpec.ofChange compileMeansSpec)

/-- ITS FALSE NEIGHBOUR: 'it returns false'. Refute it at one input. -/
def compileMeansWrong : ChangeSpec := { name := "compileMeans", fn := fun _ => fun
  | [d1, d2, d3] => { results := [.lit (.bool false)], args := [d1, d2, d3] }
  | _ => none }
def CompileMeansWrongFalsely : Prop := compileMeansRow.holds Tryz.pinned (OpenSpec.ofChange compileMeansWrong)

/-- 'damasklaw22.CompileBack': WHATEVER THE INPUT: true; the input reads as it did. -/
def compileBackSpec : ChangeSpec := { name := "compileBack", fn := fun _ => fun
  | [d1, d2] => { results := [.lit (.bool true)], args := [d1, d2] }
  | _ => none }
def compileBackRow : OpenClaim := { program := "yticnbcfmbhjbgaagreatdoor", sum := "c359dd10e32d7cb0f9a07573a2d4c1c5992d74170ba73ed051a4739ac121c1d8", func := "damask/damasklaw22.CompileBack", spec := "compileBack", inPlace := ["internal/bytealg.IndexByteString", "internal/abi.NoEscape"], unfollowed := true, recurses := true, named := ["damask/print.inputs", "internal/strconv.uint64pow10", "math/bits.deBruijn32tab", "math/bits.deBruijn64tab", "damask/print.operators"], plainKeys := false, apart := false, laid := [("math/bits.deBruijn32tab", laid_math_bits_deBruijn32tab), ("math/bits.deBruijn64tab", laid_math_bits_deBruijn64tab), ("internal/strconv.uint64pow10", laid_internal_strconv_uint64pow10), ("damask/print.operators", laid_damask_print_operators), ("damask/print.inputs", laid_damask_print_inputs)] }
def CompileBackSaid : Prop := compileBackRow.holds Tryz.pinned (OpenSpec.ofChange compileBackSpec)

/-- ITS FALSE NEIGHBOUR: 'it returns false'. Refute it at one input. -/
def compileBackWrong : ChangeSpec := { name := "compileBack", fn := fun _ => fun
  | [d1, d2] => { results := [.lit (.bool false)], args := [d1, d2] }
  | _ => none }
def CompileBackWrongFalsely : Prop := compileBackRow.holds Tryz.pinned (OpenSpec.ofChange compileBackWrong)

/-- 'damasklaw22.CompileKinds': WHATEVER THE INPUT: true; the input reads as it did. -/
def compileKindsSpec : ChangeSpec := { name := "compileKinds", fn := fun _ => fun
  | [d1, d2, d3] => { results := [.lit (.bool true)], args := [d1, d2, d3] }
  | _ => none }
def compileKindsRow : OpenClaim := { program := "yticnbcfmbhjbgaagreatdoor", sum := "c359dd10e32d7cb0f9a07573a2d4c1c5992d74170ba73ed051a4739ac121c1d8", func := "damask/damasklaw22.CompileKinds", spec := "compileKinds", inPlace := ["internal/bytealg.IndexByteString", "internal/abi.NoEscape"], unfollowed := true, recurses := true, named := ["damask/print.inputs", "internal/strconv.uint64pow10", "math/bits.deBruijn32tab", "math/bits.deBruijn64tab", "damask/print.operators"], plainKeys := false, apart := false, laid := [("math/bits.deBruijn32tab", laid_math_bits_deBruijn32tab), ("math/bits.deBruijn64tab", laid_math_bits_deBruijn64tab), ("internal/strconv.uint64pow10", laid_internal_strconv_uint64pow10), ("damask/print.operators", laid_damask_print_operators), ("damask/print.inputs", laid_damask_print_inputs)] }
def CompileKindsSaid : Prop := compileKindsRow.holds Tryz.pinned (OpenSpec.ofChange compileKindsSpec)

/-- ITS FALSE NEIGHBOUR: 'it returns false'. Refute it at one input. -/
def compileKindsWrong : ChangeSpec := { name := "compileKinds", fn := fun _ => fun
  | [d1, d2, d3] => { results := [.lit (.bool false)], args := [d1, d2, d3] }
  | _ => none }
def CompileKindsWrongFalsely : Prop := compileKindsRow.holds Tryz.pinned (OpenSpec.ofChange compileKindsWrong)

/- THE SECOND FORM. 'bulk': how many values and letters a reading holds, each counted each time it is reached (what is shared counts as often as it is met; a slice's spare places count too). A statement '..UptoSaid' is the law's where the arguments, and the package variables that the reading takes, are together of bulk at most 1048576: NARROWER than '..Said'. Prove '..Said' where nothing that the law and all that it calls make is longer than what came in: it says more and counts as full. Else prove '..UptoSaid'. A law counts once. -/
mutual
def uptoBulk {H : Type} : DataW H → Nat
  | .lit (.string bytes) => bytes.length + 1
  | .lit _ => 1
  | .nil => 1
  | .ptr d => uptoBulk d + 1
  | .slice elems spare => uptoBulkAll elems + uptoBulkAll spare + 1
  | .agg parts => uptoBulkAll parts + 1
  | .iface _ d => uptoBulk d + 1
  | .map entries => uptoBulkEntries entries + 1
  | .held _ => 1
def uptoBulkAll {H : Type} : List (DataW H) → Nat
  | [] => 0
  | d :: r => uptoBulk d + uptoBulkAll r
def uptoBulkEntries {H : Type} : List (Lit × DataW H) → Nat
  | [] => 0
  | x :: r => uptoBulkEntry x + uptoBulkEntries r
def uptoBulkEntry {H : Type} : Lit × DataW H → Nat
  | (.string bytes, d) => bytes.length + uptoBulk d + 1
  | (_, d) => uptoBulk d + 1
 end
def uptoSmall : (H : Type) → List (DataW H) → Bool := fun _ ds => decide (uptoBulkAll ds ≤ 1048576)
def OpenSpec.upto (s : _root_.Go.ChangeSpec) : _root_.Go.OpenSpec := { _root_.Go.OpenSpec.ofChange s with cond := some uptoSmall }

/-- 'damasklaw22.CompileTexts', WHERE WHAT IT READS IS OF BULK AT MOST 1048576: true; the input reads as it did. -/
def compileTextsUptoRow : OpenClaim := { program := "yticnbcfmbhjbgaagreatdoor", sum := "c359dd10e32d7cb0f9a07573a2d4c1c5992d74170ba73ed051a4739ac121c1d8", func := "damask/damasklaw22.CompileTexts", spec := "compileTexts", inPlace := ["internal/bytealg.IndexByteString", "internal/abi.NoEscape"], unfollowed := true, recurses := true, named := ["damask/print.inputs", "internal/strconv.uint64pow10", "math/bits.deBruijn32tab", "math/bits.deBruijn64tab", "damask/print.operators"], plainKeys := false, apart := false, laid := [("math/bits.deBruijn32tab", laid_math_bits_deBruijn32tab), ("math/bits.deBruijn64tab", laid_math_bits_deBruijn64tab), ("internal/strconv.uint64pow10", laid_internal_strconv_uint64pow10), ("damask/print.operators", laid_damask_print_operators), ("damask/print.inputs", laid_damask_print_inputs)], narrowed := true }
def CompileTextsUptoSaid : Prop := compileTextsUptoRow.holds Tryz.pinned (OpenSpec.upto compileTextsSpec)

/-- 'damasklaw22.CompileLoads', WHERE WHAT IT READS IS OF BULK AT MOST 1048576: true; the input reads as it did. -/
def compileLoadsUptoRow : OpenClaim := { program := "yticnbcfmbhjbgaagreatdoor", sum := "c359dd10e32d7cb0f9a07573a2d4c1c5992d74170ba73ed051a4739ac121c1d8", func := "damask/damasklaw22.CompileLoads", spec := "compileLoads", inPlace := ["internal/bytealg.IndexByteString", "internal/abi.NoEscape"], unfollowed := true, recurses := true, named := ["damask/print.inputs", "internal/strconv.uint64pow10", "math/bits.deBruijn32tab", "math/bits.deBruijn64tab", "damask/print.operators"], plainKeys := false, apart := false, laid := [("math/bits.deBruijn32tab", laid_math_bits_deBruijn32tab), ("math/bits.deBruijn64tab", laid_math_bits_deBruijn64tab), ("internal/strconv.uint64pow10", laid_internal_strconv_uint64pow10), ("damask/print.operators", laid_damask_print_operators), ("damask/print.inputs", laid_damask_print_inputs)], narrowed := true }
def CompileLoadsUptoSaid : Prop := compileLoadsUptoRow.holds Tryz.pinned (OpenSpec.upto compileLoadsSpec)

/-- 'damasklaw22.CompileNames', WHERE WHAT IT READS IS OF BULK AT MOST 1048576: true; the input reads as it did. -/
def compileNamesUptoRow : OpenClaim := { program := "yticnbcfmbhjbgaagreatdoor", sum := "c359dd10e32d7cb0f9a07573a2d4c1c5992d74170ba73ed051a4739ac121c1d8", func := "damask/damasklaw22.CompileNames", spec := "compileNames", inPlace := ["internal/bytealg.IndexByteString", "internal/abi.NoEscape"], unfollowed := true, recurses := true, named := ["damask/print.inputs", "internal/strconv.uint64pow10", "math/bits.deBruijn32tab", "math/bits.deBruijn64tab", "damask/print.operators"], plainKeys := false, apart := false, laid := [("math/bits.deBruijn32tab", laid_math_bits_deBruijn32tab), ("math/bits.deBruijn64tab", laid_math_bits_deBruijn64tab), ("internal/strconv.uint64pow10", laid_internal_strconv_uint64pow10), ("damask/print.operators", laid_damask_print_operators), ("damask/print.inputs", laid_damask_print_inputs)], narrowed := true }
def CompileNamesUptoSaid : Prop := compileNamesUptoRow.holds Tryz.pinned (OpenSpec.upto compileNamesSpec)

/-- 'damasklaw22.CompileMeans', WHERE WHAT IT READS IS OF BULK AT MOST 1048576: true; the input reads as it did. -/
def compileMeansUptoRow : OpenClaim := { program := "yticnbcfmbhjbgaagreatdoor", sum := "c359dd10e32d7cb0f9a07573a2d4c1c5992d74170ba73ed051a4739ac121c1d8", func := "damask/damasklaw22.CompileMeans", spec := "compileMeans", inPlace := ["internal/bytealg.IndexByteString", "internal/abi.NoEscape"], unfollowed := true, recurses := true, named := ["damask/print.inputs", "internal/strconv.uint64pow10", "math/bits.deBruijn32tab", "math/bits.deBruijn64tab", "damask/print.operators"], plainKeys := false, apart := false, laid := [("math/bits.deBruijn32tab", laid_math_bits_deBruijn32tab), ("math/bits.deBruijn64tab", laid_math_bits_deBruijn64tab), ("internal/strconv.uint64pow10", laid_internal_strconv_uint64pow10), ("damask/print.operators", laid_damask_print_operators), ("damask/print.inputs", laid_damask_print_inputs)], narrowed := true }
def CompileMeansUptoSaid : Prop := compileMeansUptoRow.holds Tryz.pinned (OpenSpec.upto compileMeansSpec)

/-- 'damasklaw22.CompileBack', WHERE WHAT IT READS IS OF BULK AT MOST 1048576: true; the input reads as it did. -/
def compileBackUptoRow : OpenClaim := { program := "yticnbcfmbhjbgaagreatdoor", sum := "c359dd10e32d7cb0f9a07573a2d4c1c5992d74170ba73ed051a4739ac121c1d8", func := "damask/damasklaw22.CompileBack", spec := "compileBack", inPlace := ["internal/bytealg.IndexByteString", "internal/abi.NoEscape"], unfollowed := true, recurses := true, named := ["damask/print.inputs", "internal/strconv.uint64pow10", "math/bits.deBruijn32tab", "math/bits.deBruijn64tab", "damask/print.operators"], plainKeys := false, apart := false, laid := [("math/bits.deBruijn32tab", laid_math_bits_deBruijn32tab), ("math/bits.deBruijn64tab", laid_math_bits_deBruijn64tab), ("internal/strconv.uint64pow10", laid_internal_strconv_uint64pow10), ("damask/print.operators", laid_damask_print_operators), ("damask/print.inputs", laid_damask_print_inputs)], narrowed := true }
def CompileBackUptoSaid : Prop := compileBackUptoRow.holds Tryz.pinned (OpenSpec.upto compileBackSpec)

/-- 'damasklaw22.CompileKinds', WHERE WHAT IT READS IS OF BULK AT MOST 1048576: true; the input reads as it did. -/
def compileKindsUptoRow : OpenClaim := { program := "yticnbcfmbhjbgaagreatdoor", sum := "c359dd10e32d7cb0f9a07573a2d4c1c5992d74170ba73ed051a4739ac121c1d8", func := "damask/damasklaw22.CompileKinds", spec := "compileKinds", inPlace := ["internal/bytealg.IndexByteString", "internal/abi.NoEscape"], unfollowed := true, recurses := true, named := ["damask/print.inputs", "internal/strconv.uint64pow10", "math/bits.deBruijn32tab", "math/bits.deBruijn64tab", "damask/print.operators"], plainKeys := false, apart := false, laid := [("math/bits.deBruijn32tab", laid_math_bits_deBruijn32tab), ("math/bits.deBruijn64tab", laid_math_bits_deBruijn64tab), ("internal/strconv.uint64pow10", laid_internal_strconv_uint64pow10), ("damask/print.operators", laid_damask_print_operators), ("damask/print.inputs", laid_damask_print_inputs)], narrowed := true }
def CompileKindsUptoSaid : Prop := compileKindsUptoRow.holds Tryz.pinned (OpenSpec.upto compileKindsSpec)

end Rows
end Go.Proofs.YticnbcfmbhjbgaaGreatDoor
