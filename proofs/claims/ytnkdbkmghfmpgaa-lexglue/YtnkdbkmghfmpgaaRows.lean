/-
  No cell of these rows narrows 'for every input' (looked for: loops, veiled, ifaces, maps, wideKeys, modest, calm, conditions, laid).
  DERIVED. THE GIVEN ROWS OF THIS SEAT. 5 by the template 'for every input the law returns true; each argument reads behind the call as it read before'; 0 by the template 'total and deterministic' (their statements: YtnkdbkmghfmpgaaTotals.lean).
  GIVEN WITH THE SEED: the statements are not yours to turn. If you find one false, say at which input.
  Laid BY PROGRAM, IN A SANDBOX (cutbox-rows.mjs): the forced cells as the released guide's own fill.sh prints them over the translation 3aea32960cfe24df… (all of the seat's roots in one cut). By AI agents, Wed Nov 11 2026. No macro, syntax, notation, axiom, sorry.
-/
import Derived.Test.YtnkdbkmghfmpgaaChecked
import GoSem.Claim
import GoSem.ClaimJoined
import GoSem.ClaimMapViews
import Derived.JoinedTies
import Derived.KernelRfl
namespace Go.Proofs.Ytnkdbkmghfmpgaa
/- THE CELL 'sum', in the pinned program and in every row, IS THE sha256 OF THE DUMP (.gsa) THAT YtnkdbkmghfmpgaaProg.lean LOADS. Nothing in Lean hashes anything: it is a label: what it is worth is what the hold of that sum in a sandbox is worth. -/
noncomputable def Try.pinned : Pinned := { name := "ytnkdbkmghfmpgaa", sum := "3aea32960cfe24df128496f39d36bea612097d156f36f4149c59fe0e89ed48ea", checked := Try.checked }
namespace Rows
def none {H : Type} : Left H := { results := [], args := [] }

/-- 'damasklaw06.LexTokens': WHATEVER THE INPUT: true; the input reads as it did. -/
def lexTokensSpec : ChangeSpec := { name := "lexTokens", fn := fun _ => fun
  | [d] => { results := [.lit (.bool true)], args := [d] }
  | _ => none }
def lexTokensRow : OpenClaim := { program := "ytnkdbkmghfmpgaa", sum := "3aea32960cfe24df128496f39d36bea612097d156f36f4149c59fe0e89ed48ea", func := "damask/damasklaw06.LexTokens", spec := "lexTokens", inPlace := ["internal/bytealg.IndexByteString"], unfollowed := true, recurses := true, apart := false }
def LexTokensSaid : Prop := lexTokensRow.holds Try.pinned (OpenSpec.ofChange lexTokensSpec)

/-- ITS FALSE NEIGHBOUR: 'it returns false'. Refute it at one input. -/
def lexTokensWrong : ChangeSpec := { name := "lexTokens", fn := fun _ => fun
  | [d] => { results := [.lit (.bool false)], args := [d] }
  | _ => none }
def LexTokensWrongFalsely : Prop := lexTokensRow.holds Try.pinned (OpenSpec.ofChange lexTokensWrong)

/-- 'damasklaw06.LexWords': WHATEVER THE INPUT: true; the input reads as it did. -/
def lexWordsSpec : ChangeSpec := { name := "lexWords", fn := fun _ => fun
  | [d] => { results := [.lit (.bool true)], args := [d] }
  | _ => none }
def lexWordsRow : OpenClaim := { program := "ytnkdbkmghfmpgaa", sum := "3aea32960cfe24df128496f39d36bea612097d156f36f4149c59fe0e89ed48ea", func := "damask/damasklaw06.LexWords", spec := "lexWords", inPlace := ["internal/bytealg.IndexByteString"], unfollowed := true, recurses := true, apart := false }
def LexWordsSaid : Prop := lexWordsRow.holds Try.pinned (OpenSpec.ofChange lexWordsSpec)

/-- ITS FALSE NEIGHBOUR: 'it returns false'. Refute it at one input. -/
def lexWordsWrong : ChangeSpec := { name := "lexWords", fn := fun _ => fun
  | [d] => { results := [.lit (.bool false)], args := [d] }
  | _ => none }
def LexWordsWrongFalsely : Prop := lexWordsRow.holds Try.pinned (OpenSpec.ofChange lexWordsWrong)

/-- 'damasklaw06.LexCover': WHATEVER THE INPUT: true; the input reads as it did. -/
def lexCoverSpec : ChangeSpec := { name := "lexCover", fn := fun _ => fun
  | [d] => { results := [.lit (.bool true)], args := [d] }
  | _ => none }
def lexCoverRow : OpenClaim := { program := "ytnkdbkmghfmpgaa", sum := "3aea32960cfe24df128496f39d36bea612097d156f36f4149c59fe0e89ed48ea", func := "damask/damasklaw06.LexCover", spec := "lexCover", inPlace := ["internal/bytealg.IndexByteString"], unfollowed := true, recurses := true, apart := false }
def LexCoverSaid : Prop := lexCoverRow.holds Try.pinned (OpenSpec.ofChange lexCoverSpec)

/-- ITS FALSE NEIGHBOUR: 'it returns false'. Refute it at one input. -/
def lexCoverWrong : ChangeSpec := { name := "lexCover", fn := fun _ => fun
  | [d] => { results := [.lit (.bool false)], args := [d] }
  | _ => none }
def LexCoverWrongFalsely : Prop := lexCoverRow.holds Try.pinned (OpenSpec.ofChange lexCoverWrong)

/-- 'damasklaw06.LexGlue': WHATEVER THE INPUT: true; the input reads as it did. -/
def lexGlueSpec : ChangeSpec := { name := "lexGlue", fn := fun _ => fun
  | [d1, d2] => { results := [.lit (.bool true)], args := [d1, d2] }
  | _ => none }
def lexGlueRow : OpenClaim := { program := "ytnkdbkmghfmpgaa", sum := "3aea32960cfe24df128496f39d36bea612097d156f36f4149c59fe0e89ed48ea", func := "damask/damasklaw06.LexGlue", spec := "lexGlue", inPlace := ["internal/bytealg.IndexByteString"], unfollowed := true, recurses := true, apart := false }
def LexGlueSaid : Prop := lexGlueRow.holds Try.pinned (OpenSpec.ofChange lexGlueSpec)

/-- ITS FALSE NEIGHBOUR: 'it returns false'. Refute it at one input. -/
def lexGlueWrong : ChangeSpec := { name := "lexGlue", fn := fun _ => fun
  | [d1, d2] => { results := [.lit (.bool false)], args := [d1, d2] }
  | _ => none }
def LexGlueWrongFalsely : Prop := lexGlueRow.holds Try.pinned (OpenSpec.ofChange lexGlueWrong)

/-- 'damasklaw06.LexForeign': WHATEVER THE INPUT: true; the input reads as it did. -/
def lexForeignSpec : ChangeSpec := { name := "lexForeign", fn := fun _ => fun
  | [d1, d2, d3] => { results := [.lit (.bool true)], args := [d1, d2, d3] }
  | _ => none }
def lexForeignRow : OpenClaim := { program := "ytnkdbkmghfmpgaa", sum := "3aea32960cfe24df128496f39d36bea612097d156f36f4149c59fe0e89ed48ea", func := "damask/damasklaw06.LexForeign", spec := "lexForeign", inPlace := ["internal/bytealg.IndexByteString"], unfollowed := true, recurses := true, apart := false }
def LexForeignSaid : Prop := lexForeignRow.holds Try.pinned (OpenSpec.ofChange lexForeignSpec)

/-- ITS FALSE NEIGHBOUR: 'it returns false'. Refute it at one input. -/
def lexForeignWrong : ChangeSpec := { name := "lexForeign", fn := fun _ => fun
  | [d1, d2, d3] => { results := [.lit (.bool false)], args := [d1, d2, d3] }
  | _ => none }
def LexForeignWrongFalsely : Prop := lexForeignRow.holds Try.pinned (OpenSpec.ofChange lexForeignWrong)

/- THE SECOND FORM. 'bulk': how many values and letters a reading holds, each counted each time it is reached (what is shared counts as often as it is met; a slice's spare places count too). A statement '..UptoSaid' is the law's where the arguments, and the package variables that the reading takes, are together of bulk at most 1048576: NARROWER than '..Said'. Prove '..Said' where nothing that the law and all that it calls make is longer than what came in: it says more and counts as full. Else prove '..UptoSaid'. A law counts once. -/
mutual
def uptoBulk {H : Type} : DataW H → Nat
  | .lit (.string bytes) => bytes.length + 1
  | .lit _ => 1
  | .nil => 1
  | .ptr d => uptoBulk d + 1
  | .slice elems spare => uptoBulkAll elems + uptoBulkAll spare + 1
  | .agg parts => uptoBulkAll parts + 1
  | .iface _ d => uptoBulk d + 1
  | .map entries => uptoBulkEntries entries + 1
  | .held _ => 1
def uptoBulkAll {H : Type} : List (DataW H) → Nat
  | [] => 0
  | d :: r => uptoBulk d + uptoBulkAll r
def uptoBulkEntries {H : Type} : List (Lit × DataW H) → Nat
  | [] => 0
  | x :: r => uptoBulkEntry x + uptoBulkEntries r
def uptoBulkEntry {H : Type} : Lit × DataW H → Nat
  | (.string bytes, d) => bytes.length + uptoBulk d + 1
  | (_, d) => uptoBulk d + 1
 end
def uptoSmall : (H : Type) → List (DataW H) → Bool := fun _ ds => decide (uptoBulkAll ds ≤ 1048576)
def OpenSpec.upto (s : _root_.Go.ChangeSpec) : _root_.Go.OpenSpec := { _root_.Go.OpenSpec.ofChange s with cond := some uptoSmall }

/-- 'damasklaw06.LexTokens', WHERE WHAT IT READS IS OF BULK AT MOST 1048576: true; the input reads as it did. -/
def lexTokensUptoRow : OpenClaim := { program := "ytnkdbkmghfmpgaa", sum := "3aea32960cfe24df128496f39d36bea612097d156f36f4149c59fe0e89ed48ea", func := "damask/damasklaw06.LexTokens", spec := "lexTokens", inPlace := ["internal/bytealg.IndexByteString"], unfollowed := true, recurses := true, apart := false, narrowed := true }
def LexTokensUptoSaid : Prop := lexTokensUptoRow.holds Try.pinned (OpenSpec.upto lexTokensSpec)

/-- 'damasklaw06.LexWords', WHERE WHAT IT READS IS OF BULK AT MOST 1048576: true; the input reads as it did. -/
def lexWordsUptoRow : OpenClaim := { program := "ytnkdbkmghfmpgaa", sum := "3aea32960cfe24df128496f39d36bea612097d156f36f4149c59fe0e89ed48ea", func := "damask/damasklaw06.LexWords", spec := "lexWords", inPlace := ["internal/bytealg.IndexByteString"], unfollowed := true, recurses := true, apart := false, narrowed := true }
def LexWordsUptoSaid : Prop := lexWordsUptoRow.holds Try.pinned (OpenSpec.upto lexWordsSpec)

/-- 'damasklaw06.LexCover', WHERE WHAT IT READS IS OF BULK AT MOST 1048576: true; the input reads as it did. -/
def lexCoverUptoRow : OpenClaim := { program := "ytnkdbkmghfmpgaa", sum := "3aea32960cfe24df128496f39d36bea612097d156f36f4149c59fe0e89ed48ea", func := "damask/damasklaw06.LexCover", spec := "lexCover", inPlace := ["internal/bytealg.IndexByteString"], unfollowed := true, recurses := true, apart := false, narrowed := true }
def LexCoverUptoSaid : Prop := lexCoverUptoRow.holds Try.pinned (OpenSpec.upto lexCoverSpec)

/-- 'damasklaw06.LexGlue', WHERE WHAT IT READS IS OF BULK AT MOST 1048576: true; the input reads as it did. -/
def lexGlueUptoRow : OpenClaim := { program := "ytnkdbkmghfmpgaa", sum := "3aea32960cfe24df128496f39d36bea612097d156f36f4149c59fe0e89ed48ea", func := "damask/damasklaw06.LexGlue", spec := "lexGlue", inPlace := ["internal/bytealg.IndexByteString"], unfollowed := true, recurses := true, apart := false, narrowed := true }
def LexGlueUptoSaid : Prop := lexGlueUptoRow.holds Try.pinned (OpenSpec.upto lexGlueSpec)

/-- 'damasklaw06.LexForeign', WHERE WHAT IT READS IS OF BULK AT MOST 1048576: true; the input reads as it did. -/
def lexForeignUptoRow : OpenClaim := { program := "ytnkdbkmghfmpgaa", sum := "3aea32960cfe24df128496f39d36bea612097d156f36f4149c59fe0e89ed48ea", func := "damask/damasklaw06.LexForeign", spec := "lexForeign", inPlace := ["internal/bytealg.IndexByteString"], unfollowed := true, recurses := true, apart := false, narrowed := true }
def LexForeignUptoSaid : Prop := lexForeignUptoRow.holds Try.pinned (OpenSpec.upto lexForeignSpec)

end Rows
end Go.Proofs.Ytnkdbkmghfmpgaa
