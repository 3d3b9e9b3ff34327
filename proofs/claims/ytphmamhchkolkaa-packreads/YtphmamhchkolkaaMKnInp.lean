/-
  The walks of kind.Input and what it calls, and of kind.lies.
-/
import Derived.Test.YtphmamhchkolkaaMKnA
namespace Go.Proofs.Ytphmamhchkolkaa.Knd
open Go.RowKit
set_option linter.unusedVariables false

def colZ (f : Int) : Int := if f = 0 then 4096 else 1048576
def rowZ (f : Int) : Int := if f = 0 then 4096 else 1

/-- Between what an input lies, if there is one. -/
def inZ (f d n : Int) : Option (Int × Int) :=
  if ¬ May f d then none else
  if n = 0 then some (0, colZ f - 1) else
  if n = 1 then some (0, rowZ f - 1) else
  if n = 2 then some (0, 3) else
  if n = 3 then some (lowZ f d, lowZ f d) else
  if n = 4 then some (highZ f d, highZ f d) else
  if n = 5 then some (borderZ f d, borderZ f d) else none
def inV (f d n : Int) : Value := .tuple #[.agg #[.int .i64 ((inZ f d n).getD (0, 0)).1, .int .i64 ((inZ f d n).getD (0, 0)).2], .bool (inZ f d n).isSome]

theorem facts2 {W : World} {b : Nat} {t : TypeId} {x y : Value} (h : HasC W b t #[x, y]) : W.cell? ⟨b, 0, none⟩ = some x ∧ W.cell? ⟨b, 1, none⟩ = some y ∧ W.frozen? ⟨b, 0, none⟩ = false ∧ W.frozen? ⟨b, 1, none⟩ = false :=
  ⟨h.cell 0 rfl, h.cell 1 rfl, h.frozen 0, h.frozen 1⟩

end Go.Proofs.Ytphmamhchkolkaa.Knd
