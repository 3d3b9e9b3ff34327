/-
  Two writers side by side: what one writes does not touch the other.
-/
import Derived.Test.YtkmhdkeneggceaaAwake
namespace Go.Proofs.Ytkmhdkeneggceaa
open Go.RowKit Bt
set_option linter.unusedVariables false

/-- Two writers. -/
structure Two (base : Nat) (w : World) (r1 : Nat) (v1 : Value) (b1 : List Int) (r2 : Nat) (v2 : Value) (b2 : List Int) : Prop where
  one : Wr base w r1 v1 b1
  two : Wr base w r2 v2 b2
  ne : r1 ≠ r2
  dist : ∀ g, v1.ownBlock = some g → v2.ownBlock ≠ some g

theorem Two.swap {base : Nat} {w : World} {r1 r2 : Nat} {v1 v2 : Value} {b1 b2 : List Int} (h : Two base w r1 v1 b1 r2 v2 b2) : Two base w r2 v2 b2 r1 v1 b1 :=
  ⟨h.two, h.one, h.ne.symm, fun g h2 h1 => h.dist g h1 h2⟩

theorem Two.step {base : Nat} {w w' : World} {r1 r2 : Nat} {v1 v2 v1' : Value} {b1 b2 b1' : List Int} (h : Two base w r1 v1 b1 r2 v2 b2) (hW : Wr base w' r1 v1' b1') (hG : Goes w w' r1 v1 v1') : Two base w' r1 v1' b1' r2 v2 b2 := by
  refine ⟨hW, hG.keeps.wr h.two ?_, h.ne, ?_⟩
  · rintro k hk hk'
    rcases hk with rfl | hk
    · rcases hk' with hk' | hk'
      · exact h.ne hk'.symm
      · exact owns_not h.one.own h.two.heap (by decide) hk'
    · rcases hk' with rfl | hk'
      · exact owns_not h.two.own h.one.heap (by decide) hk
      · exact h.dist k hk' hk
  · intro g hg h2
    rcases hG.own g hg with h' | h'
    · exact h.dist g h' h2
    · have := (h.two.own.lt g h2).2; omega

theorem Two.later {base : Nat} {w w' : World} {r1 r2 : Nat} {v1 v2 : Value} {b1 b2 : List Int} (h : Two base w r1 v1 b1 r2 v2 b2) (hb : Below w.heap.size w w') : Two base w' r1 v1 b1 r2 v2 b2 :=
  ⟨h.one.later hb, h.two.later hb, h.ne, h.dist⟩

/-- Two new writers. -/
theorem two_new {base : Nat} {w w1 w2 : World} (hb : base ≤ w.heap.size) (h1 : Wr base w1 w.heap.size (.slice none 0 0) []) (hB1 : Below w.heap.size w w1) (h2 : Wr base w2 w1.heap.size (.slice none 0 0) []) (hB2 : Below w1.heap.size w1 w2) :
    Two base w2 w.heap.size (.slice none 0 0) [] w1.heap.size (.slice none 0 0) [] :=
  ⟨h1.later hB2, h2, by have := h1.lt; omega, fun g hg => by simp [Value.ownBlock] at hg⟩

end Go.Proofs.Ytkmhdkeneggceaa
