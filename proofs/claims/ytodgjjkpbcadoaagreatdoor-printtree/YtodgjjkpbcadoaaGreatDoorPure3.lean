/-
  Gaps, byte by byte.
-/
import Derived.Test.YtodgjjkpbcadoaaGreatDoorPure2
namespace Lx
set_option linter.unusedVariables false

theorem cov_len : ∀ (T : List Tok) (l : List UInt8) (p : Nat), Cov l p T → T.length ≤ l.length
  | [], _, _, _ => Nat.zero_le _
  | t :: T, l, p, ⟨g, rest, e, hp, hg, hf, hm, hc⟩ => by
    subst e
    have := cov_len T rest _ hc
    have h1 : 0 < t.text.length := may_pos hm
    simp only [List.length_cons, List.length_append]
    omega

theorem gap_step {G : List UInt8} {b r : Bool} {c : UInt8} {m : Nat} (h : gp false (G.take m) = some b) (hc : G[m]? = some c) (hG : gp false G = some r) :
    ∃ b', gp false (G.take (m + 1)) = some b' ∧ ((b = true ∧ c = 10 ∧ b' = false) ∨ (b = true ∧ c ≠ 10 ∧ b' = true) ∨ (b = false ∧ c = 35 ∧ b' = true) ∨ (b = false ∧ c = 32 ∧ b' = false) ∨ (b = false ∧ c = 9 ∧ b' = false) ∨ (b = false ∧ c = 10 ∧ b' = false)) := by
  have e1 : gp false (G.take (m + 1)) = gp b [c] := by
    rw [List.take_add_one, hc, gp_append, h]
    rfl
  have hne : gp b [c] ≠ none := by
    intro hn
    have e2 : G = G.take (m + 1) ++ G.drop (m + 1) := (List.take_append_drop _ _).symm
    rw [e2, gp_append, e1, hn] at hG
    cases hG
  rw [e1]
  by_cases h10 : c = 10
  · subst h10
    cases b
    · exact ⟨false, rfl, by simp⟩
    · exact ⟨false, rfl, by simp⟩
  · have n10 : (c != 10) = true := by simp [h10]
    cases b with
    | true =>
      refine ⟨true, ?_, .inr (.inl ⟨rfl, h10, rfl⟩)⟩
      simp [gp, n10]
    | false =>
      by_cases h35 : c = 35
      · subst h35
        exact ⟨true, rfl, by simp⟩
      · have n35 : (c == 35) = false := by simp [h35]
        cases hb : bl c with
        | false =>
          exfalso
          apply hne
          simp [gp, n35, hb]
        | true =>
          refine ⟨false, by simp [gp, n35, hb], ?_⟩
          simp only [bl, Bool.or_eq_true, beq_iff_eq] at hb
          rcases hb with (rfl | rfl) | rfl <;> simp

end Lx
