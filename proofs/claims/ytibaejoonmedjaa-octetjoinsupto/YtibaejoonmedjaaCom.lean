/-
  What the laws of layer 1 share: contracts of the writers in the form of bytes that are read, small facts on memory.
-/
import Derived.Test.YtibaejoonmedjaaRefV
import Derived.ProofKit
namespace Go.Proofs.Ytibaejoonmedjaa
open Go.RowKit Oct
set_option linter.unusedVariables false

theorem own : ownKnob Try.prog.godebug = none := by kernel_rfl
theorem laidOut : laidOutB Try.prog = true := by kernel_rfl

theorem bytes_nil (w : World) : Bytes w none 0 0 [] := ⟨rfl, Nat.le_refl _, Nat.zero_le _, fun _ => rfl, by simp, .inl rfl⟩

theorem Bytes.drewN {w : World} {a : Option Addr} {n c : Nat} {zs : List Int} (h : Bytes w a n c zs) (q : Nat) : Bytes (w.drewN q) a n c zs := h.later (below_drewN (Below.refl _ _) q)

theorem int_b (n : Int) (w : World) (h0 : -9223372036854775808 ≤ n) (h1 : n ≤ 9223372036854775807) :
    Calls Try.prog 13 #[.int .i64 n] w fun e w' => ∃ a c, e = .returned (.slice a (vint (zz n)).length c) ∧ Bytes w' a (vint (zz n)).length c (vint (zz n)) ∧ Below w.heap.size w w' :=
  (int_any n w h0 h1).mono fun e w' ⟨v, he, ho, hb⟩ => by
    obtain ⟨hz1, hz2⟩ := zz_range n h0 h1
    obtain ⟨a, c, rfl, hB, _⟩ := Bytes.of_owns ho (vint_byte _ hz1 hz2)
    exact ⟨a, c, he, hB, hb⟩
theorem refInt_b (n : Int) (w : World) (h0 : -9223372036854775808 ≤ n) (h1 : n ≤ 9223372036854775807) :
    Calls Try.prog 14 #[.int .i64 n] w fun e w' => ∃ a c, e = .returned (.slice a (vint (zz n)).length c) ∧ Bytes w' a (vint (zz n)).length c (vint (zz n)) ∧ Below w.heap.size w w' :=
  (refInt_any n w h0 h1).mono fun e w' ⟨v, he, ho, hb⟩ => by
    obtain ⟨hz1, hz2⟩ := zz_range n h0 h1
    obtain ⟨a, c, rfl, hB, _⟩ := Bytes.of_owns ho (vint_byte _ hz1 hz2)
    exact ⟨a, c, he, hB, hb⟩
theorem uint_b (n : Int) (w : World) (h0 : 0 ≤ n) (h1 : n ≤ 9223372036854775807) :
    Calls Try.prog 9 #[.int .i64 n] w fun e w' => ∃ a c, e = .returned (.tuple #[.slice a (vint n).length c, .int .i64 0]) ∧ Bytes w' a (vint n).length c (vint n) ∧ Below w.heap.size w w' :=
  (uint_any n w h0 h1).mono fun e w' ⟨v, he, ho, hb⟩ => by
    obtain ⟨a, c, rfl, hB, _⟩ := Bytes.of_owns ho (vint_byte _ h0 (by omega))
    exact ⟨a, c, he, hB, hb⟩
theorem refUint_b (n : Int) (w : World) (h0 : 0 ≤ n) (h1 : n ≤ 9223372036854775807) :
    Calls Try.prog 10 #[.int .i64 n] w fun e w' => ∃ a c, e = .returned (.tuple #[.slice a (vint n).length c, .int .i64 0]) ∧ Bytes w' a (vint n).length c (vint n) ∧ Below w.heap.size w w' :=
  (refUint_any n w h0 h1).mono fun e w' ⟨v, he, ho, hb⟩ => by
    obtain ⟨a, c, rfl, hB, _⟩ := Bytes.of_owns ho (vint_byte _ h0 (by omega))
    exact ⟨a, c, he, hB, hb⟩

theorem same_self (a1 a2 : Option Addr) (n1 n2 c1 c2 : Nat) (z : List Int) (w : World) (h1 : Bytes w a1 n1 c1 z) (h2 : Bytes w a2 n2 c2 z) :
    Calls Try.prog 12 #[.slice a1 n1 c1, .slice a2 n2 c2] w fun e w' => e = .returned (.bool true) ∧ ∃ q, w' = w.drewN q := by
  have h := same_any a1 a2 n1 n2 c1 c2 z z w h1 h2
  simpa using h

theorem below_step {w w1 w2 : World} (h : Below w.heap.size w w1) (h2 : Below w1.heap.size w1 w2) : Below w.heap.size w w2 := h.trans (h2.mono h.size)

theorem wf_i64 {x : Int} (h : (Lit.int .i64 x).wf = true) : -9223372036854775808 ≤ x ∧ x ≤ 9223372036854775807 := by
  simp [Lit.wf, IntKind.min, IntKind.max, IntKind.signed, IntKind.bits] at h
  exact ⟨by omega, by omega⟩

theorem Rd.later {w w' : World} {r g : Nat} {zs : List Int} (h : Rd w r g zs) (hb : Below w.heap.size w w') : Rd w' r g zs := by
  obtain ⟨off, n, c, hr, hB, hne, hlt⟩ := h
  exact ⟨off, n, c, by rw [hb.block r (Array.getElem?_eq_some_iff.1 hr).1]; exact hr, hB.later hb, hne, Nat.lt_of_lt_of_le hlt hb.size⟩

theorem Rd.lt {w : World} {r g : Nat} {zs : List Int} (h : Rd w r g zs) : g < w.heap.size ∧ r < w.heap.size := by
  obtain ⟨off, n, c, hr, hB, hne, hlt⟩ := h
  exact ⟨hlt, (Array.getElem?_eq_some_iff.1 hr).1⟩

theorem Bytes.take {w : World} {a : Option Addr} {n c : Nat} {zs : List Int} (h : Bytes w a n c zs) {k : Nat} (hk : k ≤ n) : Bytes w a k c (zs.take k) := by
  have hl := h.len
  refine ⟨by rw [List.length_take]; omega, Nat.le_trans hk h.le, h.max, h.nil, fun z hz => h.byte z (List.mem_of_mem_take hz), ?_⟩
  by_cases h0 : k = 0
  · exact .inl h0
  · obtain ⟨b, off, ha, _, hc⟩ := h.at (by omega)
    refine .inr ⟨b, off, ha, fun i hi => ?_⟩
    rw [hc i (by omega)]
    simp [List.getD, hi]

end Go.Proofs.Ytibaejoonmedjaa
