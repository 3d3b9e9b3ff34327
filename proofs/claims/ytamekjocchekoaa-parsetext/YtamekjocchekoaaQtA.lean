/-
  damaskref07.mark, ends on one token.
-/
import Derived.Test.YtamekjocchekoaaGtA
import Derived.Test.YtamekjocchekoaaQsm
namespace Go.Proofs.Ytamekjocchekoaa
open Go.RowKit Go.IntWalk Lx Pz
set_option linter.unusedVariables false

set_option maxRecDepth 100000 in
set_option maxHeartbeats 2000000 in
theorem qmark_any (k p : Int) (X S : List UInt8) (W : World) : Calls Try.prog 25 #[.agg #[.int .i64 k, .string (sB X), .int .i64 p], .string (sB S)] W fun e W' => e = .returned (.bool (k == 3 && X == S)) ∧ Below W.heap.size W W' := by
  have HB := hide (bel1 W (.cells #[.int .i64 k, .string (sB X), .int .i64 p] 49))
  by_cases hk : k = 3
  · subst hk
    rw [show ((3 : Int) == 3 && X == S) = (X == S) by simp]
    go_enter Try.func25, Try.ntmps25
    go_wp2_with fail
    go_ret
    exact ⟨ret_bool (by simp), HB.out⟩
  · have k3 : (k == 3) = false := by simpa using hk
    rw [k3, Bool.false_and]
    generalize sB X = u at *
    generalize sB S = v at *
    go_enter Try.func25, Try.ntmps25
    go_wp2_with fail
    go_ret
    exact ⟨rfl, HB.out⟩

/-- A mark, as a token tells it. -/
theorem mark_ab {t : Tok} (h : Wf t) {s : Txt} (hs : s ∈ marks.map (·.1)) : (t.kind == 3 && t.text == s) = decide (ab t = mkT s) := by
  have inj : ∀ a ∈ marks.map (·.1), ∀ b ∈ marks.map (·.1), mkT a = mkT b → a = b := by decide
  have nonum : ∀ a ∈ marks.map (·.1), (match mkT a with | .num _ => false | .word _ => false | _ => true) = true := by decide
  rw [Bool.eq_iff_iff, decide_eq_true_eq, Bool.and_eq_true, beq_iff_eq, beq_iff_eq]
  rcases h with ⟨hk, hn⟩ | ⟨hk, hw⟩ | ⟨hk, hm⟩
  · constructor
    · rintro ⟨h3, -⟩; omega
    · intro e
      have := nonum s hs
      rw [← e] at this
      simp [ab, hk] at this
  · constructor
    · rintro ⟨h3, -⟩; omega
    · intro e
      have := nonum s hs
      rw [← e] at this
      simp [ab, hk] at this
  · have ha : ab t = mkT t.text := by simp [ab, hk]
    rw [ha]
    constructor
    · rintro ⟨-, rfl⟩; rfl
    · intro e; exact ⟨hk, inj _ hm _ hs e⟩

end Go.Proofs.Ytamekjocchekoaa

/-
  damaskref07.ends on one token.
-/
namespace Go.Proofs.Ytamekjocchekoaa
open Go.RowKit Go.IntWalk Lx Pz
set_option linter.unusedVariables false

def endZ (k : Int) (X : List UInt8) : Bool := k == 1 || (k == 2 || (k == 3 && X == [41]))
set_option maxRecDepth 100000 in
set_option maxHeartbeats 2000000 in
theorem qends_any (k p : Int) (X : List UInt8) (W : World) : Calls Try.prog 70 #[.agg #[.int .i64 k, .string (sB X), .int .i64 p]] W fun e W' => e = .returned (.bool (endZ k X)) ∧ Below W.heap.size W W' := by
  have HB := hide (bel1 W (.cells #[.int .i64 k, .string (sB X), .int .i64 p] 49))
  have HM := hide fun W => qmark_any k p X [41] W
  by_cases h1 : k = 1
  · subst h1
    rw [show endZ 1 X = true from rfl]
    go_enter Try.func70, Try.ntmps70
    go_wp2_with fail
    go_ret
    exact ⟨rfl, HB.out⟩
  by_cases h2 : k = 2
  · subst h2
    rw [show endZ 2 X = true from rfl]
    go_enter Try.func70, Try.ntmps70
    go_wp2_with fail
    go_ret
    exact ⟨rfl, HB.out⟩
  · have k1 : (k == 1) = false := by simpa using h1
    have k2 : (k == 2) = false := by simpa using h2
    rw [show endZ k X = (k == 3 && X == [41]) by simp [endZ, k1, k2]]
    generalize (k == 3 && X == [41]) = z at *
    go_enter Try.func70, Try.ntmps70
    go_wp2_with fail
    refine (HM.out _).mono ?_
    rintro e W1 ⟨rfl, hb⟩
    have HB1 := hide (bel HB.out hb)
    clear hb
    go_wp2_with fail
    go_ret
    exact ⟨rfl, HB1.out⟩
theorem end_ab {t : Tok} (h : Wf t) : endZ t.kind t.text = endT (ab t) := by
  rcases h with ⟨hk, hn⟩ | ⟨hk, hw⟩ | ⟨hk, hm⟩
  · rw [show ab t = .num (vl t.text) by simp [ab, hk], hk]; rfl
  · rw [show ab t = .word t.text by simp [ab, hk], hk]; rfl
  · rw [show ab t = mkT t.text by simp [ab, hk], hk]
    have : ∀ s ∈ marks.map (·.1), endZ 3 s = endT (mkT s) := by decide
    exact this _ hm

end Go.Proofs.Ytamekjocchekoaa
