/-
  No cell of these rows narrows 'for every input' (looked for: loops, veiled, ifaces, maps, wideKeys, modest, calm, conditions, laid).
  DERIVED. THE GIVEN ROWS OF THIS SEAT. 3 by the template 'for every input the law returns true; each argument reads behind the call as it read before'; 0 by the template 'total and deterministic' (their statements: YtbingoelpeoimaaTotals.lean).
  GIVEN WITH THE SEED: the statements are not yours to turn. If you find one false, say at which input.
  Laid BY PROGRAM, IN A SANDBOX (cutbox-rows.mjs): the forced cells as the released guide's own fill.sh prints them over the translation 73ec09b78cae15a2… (all of the seat's roots in one cut). By AI agents, Wed Nov 11 2026. No macro, syntax, notation, axiom, sorry.
-/
import Derived.Test.YtbingoelpeoimaaChecked
import GoSem.Claim
import GoSem.ClaimJoined
import GoSem.ClaimMapViews
import Derived.JoinedTies
import Derived.KernelRfl
namespace Go.Proofs.Ytbingoelpeoimaa
/- THE CELL 'sum', in the pinned program and in every row, IS THE sha256 OF THE DUMP (.gsa) THAT YtbingoelpeoimaaProg.lean LOADS. Nothing in Lean hashes anything: it is a label: what it is worth is what the hold of that sum in a sandbox is worth. -/
noncomputable def Try.pinned : Pinned := { name := "ytbingoelpeoimaa", sum := "73ec09b78cae15a26537b4a988383751f1b50f99ecc172f0a47e09a0d8e128f8", checked := Try.checked }
namespace Rows
def none {H : Type} : Left H := { results := [], args := [] }

/-- 'damasklaw17.PruneMeans': WHATEVER THE INPUT: true; the input reads as it did. -/
def pruneMeansSpec : ChangeSpec := { name := "pruneMeans", fn := fun _ => fun
  | [d1, d2] => { results := [.lit (.bool true)], args := [d1, d2] }
  | _ => none }
def pruneMeansRow : OpenClaim := { program := "ytbingoelpeoimaa", sum := "73ec09b78cae15a26537b4a988383751f1b50f99ecc172f0a47e09a0d8e128f8", func := "damask/damasklaw17.PruneMeans", spec := "pruneMeans", unfollowed := true, recurses := true, apart := false }
def PruneMeansSaid : Prop := pruneMeansRow.holds Try.pinned (OpenSpec.ofChange pruneMeansSpec)

/-- ITS FALSE NEIGHBOUR: 'it returns false'. Refute it at one input. -/
def pruneMeansWrong : ChangeSpec := { name := "pruneMeans", fn := fun _ => fun
  | [d1, d2] => { results := [.lit (.bool false)], args := [d1, d2] }
  | _ => none }
def PruneMeansWrongFalsely : Prop := pruneMeansRow.holds Try.pinned (OpenSpec.ofChange pruneMeansWrong)

/-- 'damasklaw17.PruneRead': WHATEVER THE INPUT: true; the input reads as it did. -/
def pruneReadSpec : ChangeSpec := { name := "pruneRead", fn := fun _ => fun
  | [d] => { results := [.lit (.bool true)], args := [d] }
  | _ => none }
def pruneReadRow : OpenClaim := { program := "ytbingoelpeoimaa", sum := "73ec09b78cae15a26537b4a988383751f1b50f99ecc172f0a47e09a0d8e128f8", func := "damask/damasklaw17.PruneRead", spec := "pruneRead", unfollowed := true, recurses := true, apart := false }
def PruneReadSaid : Prop := pruneReadRow.holds Try.pinned (OpenSpec.ofChange pruneReadSpec)

/-- ITS FALSE NEIGHBOUR: 'it returns false'. Refute it at one input. -/
def pruneReadWrong : ChangeSpec := { name := "pruneRead", fn := fun _ => fun
  | [d] => { results := [.lit (.bool false)], args := [d] }
  | _ => none }
def PruneReadWrongFalsely : Prop := pruneReadRow.holds Try.pinned (OpenSpec.ofChange pruneReadWrong)

/-- 'damasklaw17.PruneBehind': WHATEVER THE INPUT: true; the input reads as it did. -/
def pruneBehindSpec : ChangeSpec := { name := "pruneBehind", fn := fun _ => fun
  | [d1, d2] => { results := [.lit (.bool true)], args := [d1, d2] }
  | _ => none }
def pruneBehindRow : OpenClaim := { program := "ytbingoelpeoimaa", sum := "73ec09b78cae15a26537b4a988383751f1b50f99ecc172f0a47e09a0d8e128f8", func := "damask/damasklaw17.PruneBehind", spec := "pruneBehind", unfollowed := true, recurses := true, apart := false }
def PruneBehindSaid : Prop := pruneBehindRow.holds Try.pinned (OpenSpec.ofChange pruneBehindSpec)

/-- ITS FALSE NEIGHBOUR: 'it returns false'. Refute it at one input. -/
def pruneBehindWrong : ChangeSpec := { name := "pruneBehind", fn := fun _ => fun
  | [d1, d2] => { results := [.lit (.bool false)], args := [d1, d2] }
  | _ => none }
def PruneBehindWrongFalsely : Prop := pruneBehindRow.holds Try.pinned (OpenSpec.ofChange pruneBehindWrong)

/- THE SECOND FORM. 'bulk': how many values and letters a reading holds, each counted each time it is reached (what is shared counts as often as it is met; a slice's spare places count too). A statement '..UptoSaid' is the law's where the arguments, and the package variables that the reading takes, are together of bulk at most 1048576: NARROWER than '..Said'. Prove '..Said' where nothing that the law and all that it calls make is longer than what came in: it says more and counts as full. Else prove '..UptoSaid'. A law counts once. -/
mutual
def uptoBulk {H : Type} : DataW H → Nat
  | .lit (.string bytes) => bytes.length + 1
  | .lit _ => 1
  | .nil => 1
  | .ptr d => uptoBulk d + 1
  | .slice elems spare => uptoBulkAll elems + uptoBulkAll spare + 1
  | .agg parts => uptoBulkAll parts + 1
  | .iface _ d => uptoBulk d + 1
  | .map entries => uptoBulkEntries entries + 1
  | .held _ => 1
def uptoBulkAll {H : Type} : List (DataW H) → Nat
  | [] => 0
  | d :: r => uptoBulk d + uptoBulkAll r
def uptoBulkEntries {H : Type} : List (Lit × DataW H) → Nat
  | [] => 0
  | x :: r => uptoBulkEntry x + uptoBulkEntries r
def uptoBulkEntry {H : Type} : Lit × DataW H → Nat
  | (.string bytes, d) => bytes.length + uptoBulk d + 1
  | (_, d) => uptoBulk d + 1
 end
def uptoSmall : (H : Type) → List (DataW H) → Bool := fun _ ds => decide (uptoBulkAll ds ≤ 1048576)
def OpenSpec.upto (s : _root_.Go.ChangeSpec) : _root_.Go.OpenSpec := { _root_.Go.OpenSpec.ofChange s with cond := some uptoSmall }

/-- 'damasklaw17.PruneMeans', WHERE WHAT IT READS IS OF BULK AT MOST 1048576: true; the input reads as it did. -/
def pruneMeansUptoRow : OpenClaim := { program := "ytbingoelpeoimaa", sum := "73ec09b78cae15a26537b4a988383751f1b50f99ecc172f0a47e09a0d8e128f8", func := "damask/damasklaw17.PruneMeans", spec := "pruneMeans", unfollowed := true, recurses := true, apart := false, narrowed := true }
def PruneMeansUptoSaid : Prop := pruneMeansUptoRow.holds Try.pinned (OpenSpec.upto pruneMeansSpec)

/-- 'damasklaw17.PruneRead', WHERE WHAT IT READS IS OF BULK AT MOST 1048576: true; the input reads as it did. -/
def pruneReadUptoRow : OpenClaim := { program := "ytbingoelpeoimaa", sum := "73ec09b78cae15a26537b4a988383751f1b50f99ecc172f0a47e09a0d8e128f8", func := "damask/damasklaw17.PruneRead", spec := "pruneRead", unfollowed := true, recurses := true, apart := false, narrowed := true }
def PruneReadUptoSaid : Prop := pruneReadUptoRow.holds Try.pinned (OpenSpec.upto pruneReadSpec)

/-- 'damasklaw17.PruneBehind', WHERE WHAT IT READS IS OF BULK AT MOST 1048576: true; the input reads as it did. -/
def pruneBehindUptoRow : OpenClaim := { program := "ytbingoelpeoimaa", sum := "73ec09b78cae15a26537b4a988383751f1b50f99ecc172f0a47e09a0d8e128f8", func := "damask/damasklaw17.PruneBehind", spec := "pruneBehind", unfollowed := true, recurses := true, apart := false, narrowed := true }
def PruneBehindUptoSaid : Prop := pruneBehindUptoRow.holds Try.pinned (OpenSpec.upto pruneBehindSpec)

end Rows
end Go.Proofs.Ytbingoelpeoimaa
