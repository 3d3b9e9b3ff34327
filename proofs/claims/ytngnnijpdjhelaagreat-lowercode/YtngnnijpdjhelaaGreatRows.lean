/-
  No cell of these rows narrows 'for every input' (looked for: loops, veiled, ifaces, maps, wideKeys, modest, calm, conditions, laid).
  DERIVED. THE GIVEN ROWS OF THIS SEAT. 4 by the template 'for every input the law returns true; each argument reads behind the call as it read before'; 0 by the template 'total and deterministic' (their statements: YtngnnijpdjhelaaGreatTotals.lean).
  GIVEN WITH THE SEED: the statements are not yours to turn. If you find one false, say at which input.
  Laid BY PROGRAM, IN A SANDBOX (cutbox-rows.mjs): the forced cells as the released guide's own fill.sh prints them over the translation 47a14e93eed78b43… (all of the seat's roots in one cut). By AI agents, Wed Nov 11 2026. No macro, syntax, notation, axiom, sorry.
-/
import Derived.Test.YtngnnijpdjhelaaGreatChecked
import GoSem.Claim
import GoSem.ClaimJoined
import GoSem.ClaimMapViews
import Derived.JoinedTies
import Derived.KernelRfl
namespace Go.Proofs.YtngnnijpdjhelaaGreat
/- THE CELL 'sum', in the pinned program and in every row, IS THE sha256 OF THE DUMP (.gsa) THAT YtngnnijpdjhelaaGreatProg.lean LOADS. Nothing in Lean hashes anything: it is a label: what it is worth is what the hold of that sum in a sandbox is worth. -/
noncomputable def Tryz.pinned : Pinned := { name := "ytngnnijpdjhelaagreat", sum := "47a14e93eed78b43ff59b7f4309b9f10e7a70cf78f4468f6dd8e5f30999181a1", checked := Tryz.checked }
namespace Rows
def none {H : Type} : Left H := { results := [], args := [] }

/-- 'damasklaw12.LowerCode': WHATEVER THE INPUT: true; the input reads as it did. -/
def lowerCodeSpec : ChangeSpec := { name := "lowerCode", fn := fun _ => fun
  | [d1, d2] => { results := [.lit (.bool true)], args := [d1, d2] }
  | _ => none }
def lowerCodeRow : OpenClaim := { program := "ytngnnijpdjhelaagreat", sum := "47a14e93eed78b43ff59b7f4309b9f10e7a70cf78f4468f6dd8e5f30999181a1", func := "damask/damasklaw12.LowerCode", spec := "lowerCode", inPlace := ["internal/bytealg.IndexByteString"], unfollowed := true, recurses := true, plainKeys := false, apart := false }
def LowerCodeSaid : Prop := lowerCodeRow.holds Tryz.pinned (OpenSpec.ofChange lowerCodeSpec)

/-- ITS FALSE NEIGHBOUR: 'it returns false'. Refute it at one input. -/
def lowerCodeWrong : ChangeSpec := { name := "lowerCode", fn := fun _ => fun
  | [d1, d2] => { results := [.lit (.bool false)], args := [d1, d2] }
  | _ => none }
def LowerCodeWrongFalsely : Prop := lowerCodeRow.holds Tryz.pinned (OpenSpec.ofChange lowerCodeWrong)

/-- 'damasklaw12.LowerMeans': WHATEVER THE INPUT: true; the input reads as it did. -/
def lowerMeansSpec : ChangeSpec := { name := "lowerMeans", fn := fun _ => fun
  | [d1, d2, d3] => { results := [.lit (.bool true)], args := [d1, d2, d3] }
  | _ => none }
def lowerMeansRow : OpenClaim := { program := "ytngnnijpdjhelaagreat", sum := "47a14e93eed78b43ff59b7f4309b9f10e7a70cf78f4468f6dd8e5f30999181a1", func := "damask/damasklaw12.LowerMeans", spec := "lowerMeans", inPlace := ["internal/bytealg.IndexByteString"], unfollowed := true, recurses := true, plainKeys := false, apart := false }
def LowerMeansSaid : Prop := lowerMeansRow.holds Tryz.pinned (OpenSpec.ofChange lowerMeansSpec)

/-- ITS FALSE NEIGHBOUR: 'it returns false'. Refute it at one input. -/
def lowerMeansWrong : ChangeSpec := { name := "lowerMeans", fn := fun _ => fun
  | [d1, d2, d3] => { results := [.lit (.bool false)], args := [d1, d2, d3] }
  | _ => none }
def LowerMeansWrongFalsely : Prop := lowerMeansRow.holds Tryz.pinned (OpenSpec.ofChange lowerMeansWrong)

/-- 'damasklaw12.LowerNodes': WHATEVER THE INPUT: true; the input reads as it did. -/
def lowerNodesSpec : ChangeSpec := { name := "lowerNodes", fn := fun _ => fun
  | [d1, d2, d3] => { results := [.lit (.bool true)], args := [d1, d2, d3] }
  | _ => none }
def lowerNodesRow : OpenClaim := { program := "ytngnnijpdjhelaagreat", sum := "47a14e93eed78b43ff59b7f4309b9f10e7a70cf78f4468f6dd8e5f30999181a1", func := "damask/damasklaw12.LowerNodes", spec := "lowerNodes", inPlace := ["internal/bytealg.IndexByteString"], unfollowed := true, recurses := true, plainKeys := false, apart := false }
def LowerNodesSaid : Prop := lowerNodesRow.holds Tryz.pinned (OpenSpec.ofChange lowerNodesSpec)

/-- ITS FALSE NEIGHBOUR: 'it returns false'. Refute it at one input. -/
def lowerNodesWrong : ChangeSpec := { name := "lowerNodes", fn := fun _ => fun
  | [d1, d2, d3] => { results := [.lit (.bool false)], args := [d1, d2, d3] }
  | _ => none }
def LowerNodesWrongFalsely : Prop := lowerNodesRow.holds Tryz.pinned (OpenSpec.ofChange lowerNodesWrong)

/-- 'damasklaw12.LowerBinds': WHATEVER THE INPUT: true; the input reads as it did. -/
def lowerBindsSpec : ChangeSpec := { name := "lowerBinds", fn := fun _ => fun
  | [d1, d2] => { results := [.lit (.bool true)], args := [d1, d2] }
  | _ => none }
def lowerBindsRow : OpenClaim := { program := "ytngnnijpdjhelaagreat", sum := "47a14e93eed78b43ff59b7f4309b9f10e7a70cf78f4468f6dd8e5f30999181a1", func := "damask/damasklaw12.LowerBinds", spec := "lowerBinds", inPlace := ["internal/bytealg.IndexByteString"], unfollowed := true, recurses := true, plainKeys := false, apart := false }
def LowerBindsSaid : Prop := lowerBindsRow.holds Tryz.pinned (OpenSpec.ofChange lowerBindsSpec)

/-- ITS FALSE NEIGHBOUR: 'it returns false'. Refute it at one input. -/
def lowerBindsWrong : ChangeSpec := { name := "lowerBinds", fn := fun _ => fun
  | [d1, d2] => { results := [.lit (.bool false)], args := [d1, d2] }
  | _ => none }
def LowerBindsWrongFalsely : Prop := lowerBindsRow.holds Tryz.pinned (OpenSpec.ofChange lowerBindsWrong)

/- THE SECOND FORM. 'bulk': how many values and letters a reading holds, each counted each time it is reached (what is shared counts as often as it is met; a slice's spare places count too). A statement '..UptoSaid' is the law's where the arguments, and the package variables that the reading takes, are together of bulk at most 1048576: NARROWER than '..Said'. Prove '..Said' where nothing that the law and all that it calls make is longer than what came in: it says more and counts as full. Else prove '..UptoSaid'. A law counts once. -/
mutual
def uptoBulk {H : Type} : DataW H → Nat
  | .lit (.string bytes) => bytes.length + 1
  | .lit _ => 1
  | .nil => 1
  | .ptr d => uptoBulk d + 1
  | .slice elems spare => uptoBulkAll elems + uptoBulkAll spare + 1
  | .agg parts => uptoBulkAll parts + 1
  | .iface _ d => uptoBulk d + 1
  | .map entries => uptoBulkEntries entries + 1
  | .held _ => 1
def uptoBulkAll {H : Type} : List (DataW H) → Nat
  | [] => 0
  | d :: r => uptoBulk d + uptoBulkAll r
def uptoBulkEntries {H : Type} : List (Lit × DataW H) → Nat
  | [] => 0
  | x :: r => uptoBulkEntry x + uptoBulkEntries r
def uptoBulkEntry {H : Type} : Lit × DataW H → Nat
  | (.string bytes, d) => bytes.length + uptoBulk d + 1
  | (_, d) => uptoBulk d + 1
 end
def uptoSmall : (H : Type) → List (DataW H) → Bool := fun _ ds => decide (uptoBulkAll ds ≤ 1048576)
def OpenSpec.upto (s : _root_.Go.ChangeSpec) : _root_.Go.OpenSpec := { _root_.Go.OpenSpec.ofChange s with cond := some uptoSmall }

/-- 'damasklaw12.LowerCode', WHERE WHAT IT READS IS OF BULK AT MOST 1048576: true; the input reads as it did. -/
def lowerCodeUptoRow : OpenClaim := { program := "ytngnnijpdjhelaagreat", sum := "47a14e93eed78b43ff59b7f4309b9f10e7a70cf78f4468f6dd8e5f30999181a1", func := "damask/damasklaw12.LowerCode", spec := "lowerCode", inPlace := ["internal/bytealg.IndexByteString"], unfollowed := true, recurses := true, plainKeys := false, apart := false, narrowed := true }
def LowerCodeUptoSaid : Prop := lowerCodeUptoRow.holds Tryz.pinned (OpenSpec.upto lowerCodeSpec)

/-- 'damasklaw12.LowerMeans', WHERE WHAT IT READS IS OF BULK AT MOST 1048576: true; the input reads as it did. -/
def lowerMeansUptoRow : OpenClaim := { program := "ytngnnijpdjhelaagreat", sum := "47a14e93eed78b43ff59b7f4309b9f10e7a70cf78f4468f6dd8e5f30999181a1", func := "damask/damasklaw12.LowerMeans", spec := "lowerMeans", inPlace := ["internal/bytealg.IndexByteString"], unfollowed := true, recurses := true, plainKeys := false, apart := false, narrowed := true }
def LowerMeansUptoSaid : Prop := lowerMeansUptoRow.holds Tryz.pinned (OpenSpec.upto lowerMeansSpec)

/-- 'damasklaw12.LowerNodes', WHERE WHAT IT READS IS OF BULK AT MOST 1048576: true; the input reads as it did. -/
def lowerNodesUptoRow : OpenClaim := { program := "ytngnnijpdjhelaagreat", sum := "47a14e93eed78b43ff59b7f4309b9f10e7a70cf78f4468f6dd8e5f30999181a1", func := "damask/damasklaw12.LowerNodes", spec := "lowerNodes", inPlace := ["internal/bytealg.IndexByteString"], unfollowed := true, recurses := true, plainKeys := false, apart := false, narrowed := true }
def LowerNodesUptoSaid : Prop := lowerNodesUptoRow.holds Tryz.pinned (OpenSpec.upto lowerNodesSpec)

/-- 'damasklaw12.LowerBinds', WHERE WHAT IT READS IS OF BULK AT MOST 1048576: true; the input reads as it did. -/
def lowerBindsUptoRow : OpenClaim := { program := "ytngnnijpdjhelaagreat", sum := "47a14e93eed78b43ff59b7f4309b9f10e7a70cf78f4468f6dd8e5f30999181a1", func := "damask/damasklaw12.LowerBinds", spec := "lowerBinds", inPlace := ["internal/bytealg.IndexByteString"], unfollowed := true, recurses := true, plainKeys := false, apart := false, narrowed := true }
def LowerBindsUptoSaid : Prop := lowerBindsUptoRow.holds Tryz.pinned (OpenSpec.upto lowerBindsSpec)

end Rows
end Go.Proofs.YtngnnijpdjhelaaGreat
