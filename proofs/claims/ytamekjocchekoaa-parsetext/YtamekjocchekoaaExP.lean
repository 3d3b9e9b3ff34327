/-
  cond, pair and single of the document's parser, together.
-/
import Derived.Test.YtamekjocchekoaaSingle
import Derived.Test.YtamekjocchekoaaCond
import Derived.Test.YtamekjocchekoaaLate
namespace Go.Proofs.Ytamekjocchekoaa
open Go.RowKit Go.IntWalk Lx Pz
set_option linter.unusedVariables false

set_option maxRecDepth 100000 in
set_option maxHeartbeats 2000000 in
/-- pair at level 7 is single. -/
theorem pair7 {w : World} {b : Nat} {nv bv : Value} {root : Int} {NM : List Txt} {BS : List Int} {T : List Tok} (h : CC w b nv bv root NM BS 68 [] 8 T) : CC w b nv bv root NM BS 50 [.int .i64 ((7 : Nat) : Int)] 8 T := by
  intro W dv NS a n cap hM hT hw hn
  have HC := hide (h W dv NS a n cap hM hT hw hn)
  clear h hM hT hw
  show Calls Try.prog 50 #[ptr b, .slice a n cap, .int .i64 7] W _
  go_enter Try.func50, Try.ntmps50
  go_wp2_with fail
  refine Calls.mono (show Calls Try.prog 68 #[ptr b, .slice a n cap] W _ from HC.out) ?_
  intro e V hpp
  have HPP := hide hpp
  clear hpp
  rcases HPP.out with ⟨ex, h1, rfl, h3, h4⟩ | ⟨h1, ⟨z, rfl⟩, h2⟩
  · clear h1 h3 h4
    go_wp2_with fail
    go_ret2
    exact HPP.out
  · clear h1 h2
    go_wp2_with fail
    go_ret2
    exact HPP.out

theorem expr_rd {w : World} {b : Nat} {nv bv : Value} {root : Int} {NM : List Txt} {BS : List Int} (hNok : Nok NM) : ∀ (N : Nat) (T : List Tok), T.length = N →
    CC w b nv bv root NM BS 68 [] 8 T ∧ (∀ k : Nat, k ≤ 7 → CC w b nv bv root NM BS 50 [.int .i64 (k : Int)] (k + 1) T) ∧ CC w b nv bv root NM BS 27 [] 0 T := by
  intro N
  induction N using Nat.strongRecOn with
  | _ N ih =>
    intro T hT
    have hs : CC w b nv bv root NM BS 68 [] 8 T := single_rd hNok T (fun T' h => (ih T'.length (by omega) T' rfl).1) (fun T' h => (ih T'.length (by omega) T' rfl).2.2)
    have hp : ∀ j : Nat, j ≤ 7 → CC w b nv bv root NM BS 50 [.int .i64 ((7 - j : Nat) : Int)] (7 - j + 1) T := by
      intro j
      induction j with
      | zero => intro _; exact pair7 hs
      | succ j ihj =>
        intro hj
        have h1 := ihj (by omega)
        rw [show 7 - j = 7 - (j + 1) + 1 by omega] at h1
        exact pair_rd (7 - (j + 1)) (by omega) T (fun T' h k hk => (ih T'.length (by omega) T' rfl).2.1 k hk) h1
    have hp' : ∀ k : Nat, k ≤ 7 → CC w b nv bv root NM BS 50 [.int .i64 (k : Int)] (k + 1) T := fun k hk => by
      have := hp (7 - k) (by omega)
      rw [show 7 - (7 - k) = k by omega] at this
      exact this
    refine ⟨hs, hp', ?_⟩
    exact cond_rd T (fun T' h => ⟨(ih T'.length (by omega) T' rfl).2.1 0 (by omega), (ih T'.length (by omega) T' rfl).2.2⟩) (hp' 0 (by omega))

end Go.Proofs.Ytamekjocchekoaa

/-
  A program cut at its semicolons. Plain lists.
-/
namespace Go.Proofs.Ytamekjocchekoaa
open Lx Pz
set_option linter.unusedVariables false

def nosemi (l : List Tk) : Prop := ∀ t ∈ l, t ≠ .semi
theorem g_nosemi {nm : List Txt} (hn : Nok nm) {c : Nat} {l : List Tk} {e : E} (h : G nm c l e) : nosemi l := by
  intro t ht hs
  have := (g_plain hn h).1
  rw [List.all_eq_true] at this
  have := this t ht
  rw [hs] at this
  cases this
theorem gp_last {nm : List Txt} {es : List E} {l : List Tk} {o : Out} (h : nosemi l) : GP nm es l o ↔ ∃ e, G nm 0 l e ∧ o = (nm, es, e) := by
  constructor
  · intro hg
    cases hg with
    | last hx => exact ⟨_, hx, rfl⟩
    | bind _ _ _ _ => exact absurd rfl (h .semi (by simp))
  · rintro ⟨e, hx, rfl⟩
    exact .last hx
theorem semi_split {A S l2 R : List Tk} (hA : nosemi A) (hS : nosemi S) (h : A ++ .semi :: l2 = S ++ .semi :: R) : A = S ∧ l2 = R := by
  rcases two_cuts h with ⟨C, rfl⟩ | ⟨h1, -⟩ | ⟨C, rfl, -⟩
  · exact absurd rfl (hA .semi (by simp))
  · subst h1
    exact ⟨rfl, by simpa using List.append_cancel_left h⟩
  · exact absurd rfl (hS .semi (by simp))
theorem gp_semi {nm : List Txt} (hn : Nok nm) {es : List E} {S R : List Tk} {o : Out} (h : nosemi S) :
    GP nm es (S ++ .semi :: R) o ↔ ∃ s l1 e, S = .word wLet :: .word s :: .eq :: l1 ∧ resv s = false ∧ nm.contains s = false ∧ G nm 0 l1 e ∧ GP (nm ++ [s]) (es ++ [e]) R o := by
  constructor
  · intro hg
    generalize hL : S ++ .semi :: R = L at hg
    cases hg with
    | last hx => exact absurd rfl (g_nosemi hn hx .semi (by rw [← hL]; simp))
    | @bind _ _ s l1 l2 e _ h1 h2 h3 h4 =>
      have hA : nosemi (.word wLet :: .word s :: .eq :: l1) := by
        intro t ht
        simp only [List.mem_cons] at ht
        rcases ht with rfl | rfl | rfl | ht
        · simp
        · simp
        · simp
        · exact g_nosemi hn h3 t ht
      obtain ⟨rfl, rfl⟩ := semi_split hA h (show (.word wLet :: .word s :: .eq :: l1) ++ .semi :: l2 = S ++ .semi :: R by rw [hL]; rfl)
      exact ⟨s, l1, e, rfl, h1, h2, h3, h4⟩
  · rintro ⟨s, l1, e, rfl, h1, h2, h3, h4⟩
    exact .bind h1 h2 h3 h4

/-- One token more of a segment. -/
theorem nosemi_snoc {L : List Tk} {f k : Nat} {t : Tk} (hf : f ≤ k) (h : nosemi ((L.take k).drop f)) (ht : L[k]? = some t) (hs : t ≠ .semi) : nosemi ((L.take (k + 1)).drop f) := by
  have hk := (List.getElem?_eq_some_iff.1 ht).1
  rw [List.take_succ_eq_append_getElem hk, List.drop_append_of_le_length (by simp; omega)]
  rw [List.getElem?_eq_getElem hk] at ht
  rw [Option.some.inj ht]
  intro x hx
  rw [List.mem_append] at hx
  rcases hx with hx | hx
  · exact h x hx
  · simp only [List.mem_singleton] at hx
    rw [hx]
    exact hs
theorem seg_split {L : List Tk} {f k : Nat} {t : Tk} (hf : f ≤ k) (ht : L[k]? = some t) : L.drop f = (L.take k).drop f ++ t :: L.drop (k + 1) := by
  have hk := (List.getElem?_eq_some_iff.1 ht).1
  rw [List.getElem?_eq_getElem hk] at ht
  conv => lhs; rw [← List.take_append_drop k L, List.drop_eq_getElem_cons hk, Option.some.inj ht]
  rw [List.drop_append_of_le_length (by simp; omega)]
theorem Nok.snoc' {nm : List Txt} {s : Txt} (h : Nok nm) (hs : resv s = false) : Nok (nm ++ [s]) := h.snoc hs
/-- The head of a segment, token by token. -/
theorem seg_no {nm : List Txt} (hn : Nok nm) {es : List E} {S R : List Tk} (h : nosemi S) (hx : ∀ s l1 e, S = .word wLet :: .word s :: .eq :: l1 → resv s = false → nm.contains s = false → ¬ G nm 0 l1 e) : ∀ o, ¬ GP nm es (S ++ .semi :: R) o := by
  intro o hg
  obtain ⟨s, l1, e, h1, h2, h3, h4, -⟩ := (gp_semi hn h).1 hg
  exact hx s l1 e h1 h2 h3 h4

end Go.Proofs.Ytamekjocchekoaa
