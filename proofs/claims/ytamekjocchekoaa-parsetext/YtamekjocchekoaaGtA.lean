/-
  Where the operators of a program's expression stand: brackets, and what is outside of them. Plain lists.
-/
import Derived.Test.YtamekjocchekoaaGr2
import Derived.Test.YtamekjocchekoaaGr3
namespace Pz
open Lx
set_option linter.unusedVariables false

/-- How deep in brackets, behind a list; none: it closes what it has not opened. -/
def dep : Nat → List Tk → Option Nat
  | d, [] => some d
  | d, t :: l => if t = .lp then dep (d + 1) l else if t = .rp then (match d with | 0 => none | d + 1 => dep d l) else dep d l
theorem dep_lp (d : Nat) (l : List Tk) : dep d (.lp :: l) = dep (d + 1) l := rfl
theorem dep_rp (d : Nat) (l : List Tk) : dep (d + 1) (.rp :: l) = dep d l := rfl
theorem dep_other {t : Tk} (h1 : t ≠ .lp) (h2 : t ≠ .rp) (d : Nat) (l : List Tk) : dep d (t :: l) = dep d l := by
  simp only [dep]; rw [if_neg h1, if_neg h2]
theorem dep_app : ∀ (A B : List Tk) (d : Nat), dep d (A ++ B) = (dep d A).bind fun e => dep e B
  | [], B, d => rfl
  | t :: A, B, d => by
    by_cases h1 : t = .lp
    · subst h1; rw [List.cons_append, dep_lp, dep_lp, dep_app A B]
    · by_cases h2 : t = .rp
      · subst h2
        cases d with
        | zero => rfl
        | succ d => rw [List.cons_append, dep_rp, dep_rp, dep_app A B]
      · rw [List.cons_append, dep_other h1 h2, dep_other h1 h2, dep_app A B]
theorem dep_shift : ∀ (l : List Tk) (d e k : Nat), dep d l = some e → dep (d + k) l = some (e + k)
  | [], d, e, k, h => by cases h; rfl
  | t :: l, d, e, k, h => by
    by_cases h1 : t = .lp
    · subst h1
      rw [dep_lp] at h ⊢
      rw [show d + k + 1 = d + 1 + k by omega]
      exact dep_shift l _ e k h
    · by_cases h2 : t = .rp
      · subst h2
        cases d with
        | zero => cases h
        | succ d =>
          rw [dep_rp] at h
          rw [show d + 1 + k = d + k + 1 by omega, dep_rp]
          exact dep_shift l _ e k h
      · rw [dep_other h1 h2] at h ⊢
        exact dep_shift l _ e k h
theorem dep_inP : ∀ (m : List Tk) (d : Nat), m.all inP = true → dep d m = some d
  | [], d, _ => rfl
  | t :: m, d, h => by
    simp only [List.all_cons, Bool.and_eq_true] at h
    rw [dep_other (by intro e; subst e; cases h.1) (by intro e; subst e; cases h.1)]
    exact dep_inP m d h.2
/-- A list whose brackets close. -/
def Bal (l : List Tk) : Prop := dep 0 l = some 0
theorem Bal.at {l : List Tk} (h : Bal l) (d : Nat) : dep d l = some d := by
  have := dep_shift l 0 0 d h
  simpa using this
theorem Bal.pre {l : List Tk} (h : Bal l) (p : Nat) : ∃ e, dep 0 (l.take p) = some e := by
  have h2 : dep 0 (l.take p ++ l.drop p) = some 0 := by rw [List.take_append_drop]; exact h
  rw [dep_app] at h2
  cases hh : dep 0 (l.take p) with
  | none => rw [hh] at h2; cases h2
  | some e => exact ⟨e, rfl⟩
theorem Bal.pre_ge {l : List Tk} (h : Bal l) (p d : Nat) : ∃ e, dep d (l.take p) = some e ∧ d ≤ e := by
  obtain ⟨e, he⟩ := h.pre p
  have := dep_shift _ 0 e d he
  rw [Nat.zero_add] at this
  exact ⟨_, this, by omega⟩

theorem g_bal {nm : List Txt} {c : Nat} {l : List Tk} {e : E} (h : G nm c l e) : Bal l := by
  induction h with
  | up _ _ ih => exact ih
  | sel _ _ _ ih1 ih2 ih3 =>
    unfold Bal
    rw [dep_app, ih1.at, Option.bind_some, dep_other (by simp) (by simp), dep_app, ih2.at, Option.bind_some, dep_other (by simp) (by simp)]
    exact ih3
  | bin _ _ _ ih1 ih2 =>
    unfold Bal
    rw [dep_app, ih1.at, Option.bind_some, dep_other (by simp) (by simp)]
    exact ih2
  | neg _ ih => unfold Bal; rw [dep_other (by simp) (by simp)]; exact ih
  | par _ ih => unfold Bal; rw [dep_lp, dep_app, ih.at, Option.bind_some, dep_rp]; rfl
  | num v => rfl
  | word _ _ _ _ => rfl
  | place _ hp =>
    obtain ⟨m, hl, hm, -⟩ := plc_split hp
    subst hl
    unfold Bal
    rw [dep_other (by simp) (by simp), List.cons_append, dep_lp, dep_app, dep_inP m _ hm, Option.bind_some, dep_rp]
    rfl
  | call1 _ _ ih => unfold Bal; rw [dep_other (by simp) (by simp), dep_lp, dep_app, ih.at, Option.bind_some, dep_rp]; rfl
  | call2 _ _ _ ih1 ih2 =>
    unfold Bal
    rw [dep_other (by simp) (by simp), dep_lp, dep_app, ih1.at, Option.bind_some, dep_other (by simp) (by simp), dep_app, ih2.at, Option.bind_some, dep_rp]
    rfl
  | call3 _ _ _ _ ih1 ih2 ih3 =>
    unfold Bal
    rw [dep_other (by simp) (by simp), dep_lp, dep_app, ih1.at, Option.bind_some, dep_other (by simp) (by simp), dep_app, ih2.at, Option.bind_some, dep_other (by simp) (by simp), dep_app, ih3.at, Option.bind_some, dep_rp]
    rfl

/-- May an operand end so? -/
def endT : Tk → Bool
  | .num _ => true
  | .word _ => true
  | .rp => true
  | _ => false
/-- An expression ends as an operand does. -/
theorem g_last {nm : List Txt} {c : Nat} {l : List Tk} {e : E} (h : G nm c l e) : ∃ A t, l = A ++ [t] ∧ endT t = true := by
  induction h with
  | up _ _ ih => exact ih
  | @sel l1 l2 l3 _ _ _ _ _ _ _ _ ih3 => obtain ⟨A, t, rfl, ht⟩ := ih3; exact ⟨l1 ++ .ques :: (l2 ++ .colon :: A), t, by simp, ht⟩
  | @bin k o l1 l2 _ _ _ _ _ _ ih2 => obtain ⟨A, t, rfl, ht⟩ := ih2; exact ⟨l1 ++ .op k o :: A, t, by simp, ht⟩
  | neg _ ih => obtain ⟨A, t, rfl, ht⟩ := ih; exact ⟨.op 5 9 :: A, t, rfl, ht⟩
  | @par l _ _ _ => exact ⟨.lp :: l, .rp, by simp, rfl⟩
  | num v => exact ⟨[], .num v, rfl, rfl⟩
  | @word s _ _ _ _ _ => exact ⟨[], .word s, rfl, rfl⟩
  | @place s l _ _ hp =>
    obtain ⟨m, hl, hm, -⟩ := plc_split hp
    subst hl
    exact ⟨.word s :: .lp :: m, .rp, by simp, rfl⟩
  | @call1 s l _ _ _ _ => exact ⟨.word s :: .lp :: l, .rp, by simp, rfl⟩
  | @call2 s l l2 _ _ _ _ _ _ _ => exact ⟨.word s :: .lp :: (l ++ .comma :: l2), .rp, by simp, rfl⟩
  | @call3 s l l2 l3 _ _ _ _ _ _ _ _ _ _ => exact ⟨.word s :: .lp :: (l ++ .comma :: (l2 ++ .comma :: l3)), .rp, by simp, rfl⟩

end Pz

/-
  What may stand outside of all brackets in a program's expression. Plain lists.
-/
namespace Pz
open Lx
set_option linter.unusedVariables false

/-- Behind A, where an operand may have ended. -/
def ended (A : List Tk) : Prop := ∃ A' t, A = A' ++ [t] ∧ endT t = true
theorem ended_app {A B : List Tk} (h : ended (A ++ B)) (hB : B ≠ []) : ended B := by
  obtain ⟨A', t, e, ht⟩ := h
  obtain ⟨B', b, rfl⟩ : ∃ B' b, B = B' ++ [b] := ⟨B.dropLast, B.getLast hB, (List.dropLast_concat_getLast hB).symm⟩
  rw [← List.append_assoc] at e
  have := List.append_inj' e rfl
  have h2 := this.2
  simp at h2
  exact ⟨B', b, rfl, by rw [h2]; exact ht⟩
theorem not_ended {A : List Tk} {t : Tk} (ht : endT t = false) : ¬ ended (A ++ [t]) := by
  rintro ⟨A', t', e, h⟩
  have := (List.append_inj' e rfl).2
  simp at this
  rw [← this, ht] at h
  cases h

/-- May this token stand there, outside of all brackets, behind A, in an expression of level c? -/
def okO (c : Nat) (A : List Tk) : Tk → Prop
  | .ques => c = 0
  | .colon => c = 0
  | .comma => False
  | .semi => False
  | .eq => False
  | .op k _ => ended A → c ≤ k + 1
  | _ => True
theorem okO_up {c c' : Nat} {A : List Tk} {t : Tk} (h : okO c' A t) (hc : c ≤ c') : okO c A t := by
  cases t with
  | op k o => intro he; have := h he; omega
  | ques => have h2 : c' = 0 := h; show c = 0; omega
  | colon => have h2 : c' = 0 := h; show c = 0; omega
  | _ => exact h
theorem okO_app {c : Nat} {A B : List Tk} {t : Tk} (h : okO c B t) (hB : B ≠ [] ∨ ¬ ended A) : okO c (A ++ B) t := by
  cases t with
  | op k o =>
    intro he
    rcases hB with hB | hA
    · exact h (ended_app he hB)
    · by_cases hB : B = []
      · subst hB; rw [List.append_nil] at he; exact absurd he hA
      · exact h (ended_app he hB)
  | _ => exact h

/-- Two ways to cut a list at a token. -/
theorem two_cuts {l1 l2 A B : List Tk} {x t : Tk} (h : l1 ++ x :: l2 = A ++ t :: B) : (∃ C, l1 = A ++ t :: C) ∨ (A = l1 ∧ t = x) ∨ (∃ C, A = l1 ++ x :: C ∧ l2 = C ++ t :: B) := by
  rw [List.append_eq_append_iff] at h
  rcases h with ⟨a', h1, h2⟩ | ⟨c', h1, h2⟩
  · cases a' with
    | nil =>
      rw [List.append_nil] at h1
      simp only [List.nil_append, List.cons.injEq] at h2
      exact .inr (.inl ⟨h1, h2.1.symm⟩)
    | cons y a'' =>
      simp only [List.cons_append, List.cons.injEq] at h2
      obtain ⟨rfl, h2⟩ := h2
      exact .inr (.inr ⟨a'', h1, h2⟩)
  · cases c' with
    | nil =>
      rw [List.append_nil] at h1
      simp only [List.nil_append, List.cons.injEq] at h2
      exact .inr (.inl ⟨h1.symm, h2.1⟩)
    | cons y c'' =>
      simp only [List.cons_append, List.cons.injEq] at h2
      obtain ⟨rfl, h2⟩ := h2
      exact .inl ⟨c'', h1⟩

/-- Inside of brackets nothing is outside. -/
theorem inside {M A B : List Tk} {t : Tk} (hM : Bal M) (h : M ++ [.rp] = A ++ t :: B) (ht : t ≠ .rp) : ∃ e, dep 1 A = some (e + 1) := by
  rcases two_cuts h with ⟨C, rfl⟩ | ⟨-, e⟩ | ⟨C, -, e⟩
  · obtain ⟨e, he, hle⟩ := hM.pre_ge A.length 1
    rw [List.take_left] at he
    exact ⟨e - 1, by rw [he]; congr 1; omega⟩
  · exact absurd e ht
  · cases C <;> cases e
theorem brack {pre M A B : List Tk} {t : Tk} (hp : ∀ x ∈ pre, x ≠ .lp ∧ x ≠ .rp ∧ x ≠ t) (hM : Bal M) (h : pre ++ .lp :: (M ++ [.rp]) = A ++ t :: B) (h1 : t ≠ .lp) (h2 : t ≠ .rp) : dep 0 A ≠ some 0 := by
  rcases two_cuts h with ⟨C, rfl⟩ | ⟨-, e⟩ | ⟨C, rfl, e⟩
  · exact absurd rfl ((hp t (by simp)).2.2)
  · exact absurd e h1
  · have hd : dep 0 pre = some 0 := by
      have : ∀ (l : List Tk), (∀ x ∈ l, x ≠ .lp ∧ x ≠ .rp ∧ x ≠ t) → dep 0 l = some 0 := by
        intro l
        induction l with
        | nil => intro _; rfl
        | cons y l ih =>
          intro hl
          rw [dep_other (hl y (by simp)).1 (hl y (by simp)).2.1]
          exact ih (fun x hx => hl x (by simp [hx]))
      exact this pre hp
    obtain ⟨z, hz⟩ := inside hM e h2
    rw [dep_app, hd, Option.bind_some, dep_lp, hz]
    simp

theorem g_out {nm : List Txt} {c : Nat} {l : List Tk} {e : E} (h : G nm c l e) : ∀ A t B, l = A ++ t :: B → dep 0 A = some 0 → t ≠ .lp → t ≠ .rp → okO c A t := by
  induction h with
  | up _ _ ih => intro A t B hl hd h1 h2; exact okO_up (ih A t B hl hd h1 h2) (by omega)
  | @sel l1 l2 l3 _ _ _ g1 g2 g3 ih1 ih2 ih3 =>
    intro A t B hl hd h1 h2
    rcases two_cuts hl with ⟨C, rfl⟩ | ⟨-, rfl⟩ | ⟨C, rfl, hl2⟩
    · exact okO_up (ih1 A t C rfl hd h1 h2) (by omega)
    · rfl
    · rw [dep_app, (g_bal g1).at, Option.bind_some, dep_other (by simp) (by simp)] at hd
      rcases two_cuts hl2 with ⟨C2, rfl⟩ | ⟨-, rfl⟩ | ⟨C2, rfl, hl3⟩
      · have := okO_app (A := l1 ++ [.ques]) (ih2 C t C2 rfl hd h1 h2) (.inr (not_ended rfl))
        simpa using this
      · rfl
      · rw [dep_app, (g_bal g2).at, Option.bind_some, dep_other (by simp) (by simp)] at hd
        have := okO_app (A := l1 ++ .ques :: (l2 ++ [.colon])) (ih3 C2 t B hl3 hd h1 h2) (.inr (by
          have := not_ended (A := l1 ++ .ques :: l2) (t := .colon) rfl
          simpa using this))
        simpa using this
  | @bin k o l1 l2 _ _ hk g1 g2 ih1 ih2 =>
    intro A t B hl hd h1 h2
    rcases two_cuts hl with ⟨C, rfl⟩ | ⟨-, rfl⟩ | ⟨C, rfl, hl2⟩
    · exact okO_up (ih1 A t C rfl hd h1 h2) (by unfold lefts; split <;> omega)
    · intro _; exact Nat.le_refl _
    · rw [dep_app, (g_bal g1).at, Option.bind_some, dep_other (by simp) (by simp)] at hd
      have := okO_app (A := l1 ++ [.op k o]) (okO_up (c := k + 1) (ih2 C t B hl2 hd h1 h2) (by omega)) (.inr (not_ended rfl))
      simpa using this
  | @neg l _ g ih =>
    intro A t B hl hd h1 h2
    rcases two_cuts (l1 := []) hl with ⟨C, hC⟩ | ⟨rfl, rfl⟩ | ⟨C, rfl, hl2⟩
    · cases A <;> cases hC
    · rintro ⟨A', t', e, -⟩
      cases A' <;> cases e
    · rw [List.nil_append, dep_other (by simp) (by simp)] at hd
      have := okO_app (A := [.op 5 9]) (ih C t B hl2 hd h1 h2) (.inr (not_ended (A := []) rfl))
      simpa using this
  | @par l _ g ih => intro A t B hl hd h1 h2; exact absurd hd (brack (pre := []) (by simp) (g_bal g) hl h1 h2)
  | num v =>
    intro A t B hl hd h1 h2
    rcases two_cuts (l1 := []) hl with ⟨C, hC⟩ | ⟨rfl, rfl⟩ | ⟨C, rfl, hl2⟩
    · cases A <;> cases hC
    · trivial
    · cases C <;> cases hl2
  | word _ _ _ _ =>
    intro A t B hl hd h1 h2
    rcases two_cuts (l1 := []) hl with ⟨C, hC⟩ | ⟨rfl, rfl⟩ | ⟨C, rfl, hl2⟩
    · cases A <;> cases hC
    · trivial
    · cases C <;> cases hl2
  | @place s l _ _ hp =>
    intro A t B hl hd h1 h2
    obtain ⟨m, hlm, hm, -⟩ := plc_split hp
    subst hlm
    by_cases hw : t = .word s
    · subst hw; trivial
    · exact absurd hd (brack (pre := [.word s]) (M := m) (by intro x hx; simp at hx; subst hx; exact ⟨by simp, by simp, fun e => hw e.symm⟩) (dep_inP m 0 hm) (by simpa using hl) h1 h2)
  | @call1 s l _ _ g ih =>
    intro A t B hl hd h1 h2
    by_cases hw : t = .word s
    · subst hw; trivial
    · exact absurd hd (brack (pre := [.word s]) (M := l) (by intro x hx; simp at hx; subst hx; exact ⟨by simp, by simp, fun e => hw e.symm⟩) (g_bal g) (by simpa using hl) h1 h2)
  | @call2 s l l2 _ _ _ g g2 ih ih2 =>
    intro A t B hl hd h1 h2
    by_cases hw : t = .word s
    · subst hw; trivial
    · exact absurd hd (brack (pre := [.word s]) (M := l ++ .comma :: l2) (by intro x hx; simp at hx; subst hx; exact ⟨by simp, by simp, fun e => hw e.symm⟩) (by unfold Bal; rw [dep_app, (g_bal g).at, Option.bind_some, dep_other (by simp) (by simp)]; exact g_bal g2) (by simpa using hl) h1 h2)
  | @call3 s l l2 l3 _ _ _ _ g g2 g3 ih ih2 ih3 =>
    intro A t B hl hd h1 h2
    by_cases hw : t = .word s
    · subst hw; trivial
    · exact absurd hd (brack (pre := [.word s]) (M := l ++ .comma :: (l2 ++ .comma :: l3)) (by intro x hx; simp at hx; subst hx; exact ⟨by simp, by simp, fun e => hw e.symm⟩) (by unfold Bal; rw [dep_app, (g_bal g).at, Option.bind_some, dep_other (by simp) (by simp), dep_app, (g_bal g2).at, Option.bind_some, dep_other (by simp) (by simp)]; exact g_bal g3) (by simpa using hl) h1 h2)

end Pz

/-
  The places outside of all brackets, and the scan for a choice. Plain lists.
-/
namespace Pz
open Lx
set_option linter.unusedVariables false

/-- The places outside of all brackets, with their tokens: d is how deep it is, p the first place's number. -/
def outs : Nat → Nat → List Tk → List (Nat × Tk)
  | _, _, [] => []
  | d, p, t :: l => if t = .lp then (if d = 0 then (p, t) :: outs (d + 1) (p + 1) l else outs (d + 1) (p + 1) l)
    else if t = .rp then (if d - 1 = 0 then (p, t) :: outs (d - 1) (p + 1) l else outs (d - 1) (p + 1) l)
    else (if d = 0 then (p, t) :: outs d (p + 1) l else outs d (p + 1) l)
theorem outs_lp (d p : Nat) (l : List Tk) : outs d p (.lp :: l) = (if d = 0 then [(p, .lp)] else []) ++ outs (d + 1) (p + 1) l := by
  simp only [outs, if_true]; split <;> rfl
theorem outs_rp (d p : Nat) (l : List Tk) : outs (d + 1) p (.rp :: l) = (if d = 0 then [(p, .rp)] else []) ++ outs d (p + 1) l := by
  simp only [outs, reduceCtorEq, if_false, if_true, Nat.add_sub_cancel]; split <;> rfl
theorem outs_other {t : Tk} (h1 : t ≠ .lp) (h2 : t ≠ .rp) (d p : Nat) (l : List Tk) : outs d p (t :: l) = (if d = 0 then [(p, t)] else []) ++ outs d (p + 1) l := by
  simp only [outs]; rw [if_neg h1, if_neg h2]; split <;> rfl
theorem outs_app : ∀ (A B : List Tk) (d p e : Nat), dep d A = some e → outs d p (A ++ B) = outs d p A ++ outs e (p + A.length) B
  | [], B, d, p, e, h => by cases h; simp [outs]
  | t :: A, B, d, p, e, h => by
    rw [List.cons_append, List.length_cons, show p + (A.length + 1) = p + 1 + A.length by omega]
    by_cases h1 : t = .lp
    · subst h1
      rw [dep_lp] at h
      rw [outs_lp, outs_lp, outs_app A B _ (p + 1) e h, List.append_assoc]
    · by_cases h2 : t = .rp
      · subst h2
        cases d with
        | zero => cases h
        | succ d =>
          rw [dep_rp] at h
          rw [outs_rp, outs_rp, outs_app A B _ (p + 1) e h, List.append_assoc]
      · rw [dep_other h1 h2] at h
        rw [outs_other h1 h2, outs_other h1 h2, outs_app A B _ (p + 1) e h, List.append_assoc]
/-- What is outside stands so in the list. -/
theorem outs_mem : ∀ (l : List Tk) (d p : Nat) (q : Nat) (t : Tk), (q, t) ∈ outs d p l → (∃ e, dep d l = some e) → t ≠ .lp → t ≠ .rp → ∃ A B, l = A ++ t :: B ∧ q = p + A.length ∧ dep d A = some 0
  | [], d, p, q, t, h, _, _, _ => by simp [outs] at h
  | x :: l, d, p, q, t, h, hd, h1, h2 => by
    by_cases x1 : x = .lp
    · subst x1
      rw [dep_lp] at hd
      rw [outs_lp, List.mem_append] at h
      rcases h with h | h
      · split at h
        · simp at h; exact absurd h.2 h1
        · simp at h
      · obtain ⟨A, B, rfl, hq, hA⟩ := outs_mem l _ _ q t h hd h1 h2
        exact ⟨.lp :: A, B, rfl, by simp; omega, by rw [dep_lp]; exact hA⟩
    · by_cases x2 : x = .rp
      · subst x2
        cases d with
        | zero => obtain ⟨e, he⟩ := hd; cases he
        | succ d =>
          rw [dep_rp] at hd
          rw [outs_rp, List.mem_append] at h
          rcases h with h | h
          · split at h
            · simp at h; exact absurd h.2 h2
            · simp at h
          · obtain ⟨A, B, rfl, hq, hA⟩ := outs_mem l _ _ q t h hd h1 h2
            exact ⟨.rp :: A, B, rfl, by simp; omega, by rw [dep_rp]; exact hA⟩
      · rw [dep_other x1 x2] at hd
        rw [outs_other x1 x2, List.mem_append] at h
        rcases h with h | h
        · split at h
          · rename_i h0
            simp at h
            obtain ⟨rfl, rfl⟩ := h
            exact ⟨[], l, rfl, by simp, by rw [h0]; rfl⟩
          · simp at h
        · obtain ⟨A, B, rfl, hq, hA⟩ := outs_mem l _ _ q t h hd h1 h2
          exact ⟨x :: A, B, rfl, by simp; omega, by rw [dep_other x1 x2]; exact hA⟩

/-- The scan for a choice: the first '?', how many stand open, and the ':' that closes it. -/
inductive Sq where
  | go (first : Option Nat) (deep : Nat)
  | hit (first colon : Nat)
  | bad
def sqStep : Sq → Nat × Tk → Sq
  | .go f d, (p, .ques) => .go (some (f.getD p)) (d + 1)
  | .go f d, (p, .colon) => match d with | 0 => .bad | 1 => .hit (f.getD 0) p | d + 2 => .go f (d + 1)
  | s, _ => s
def sq (s : Sq) (L : List (Nat × Tk)) : Sq := L.foldl sqStep s
theorem sq_app (s : Sq) (A B : List (Nat × Tk)) : sq s (A ++ B) = sq (sq s A) B := by simp [sq]
theorem sq_none {s : Sq} : ∀ (L : List (Nat × Tk)), (∀ x ∈ L, x.2 ≠ .ques ∧ x.2 ≠ .colon) → sq s L = s
  | [], _ => rfl
  | (p, t) :: L, h => by
    have h1 := h (p, t) (by simp)
    have e : sqStep s (p, t) = s := by
      cases s with
      | go f d => cases t <;> first | rfl | exact absurd rfl h1.1 | exact absurd rfl h1.2
      | _ => rfl
    show sq (sqStep s (p, t)) L = s
    rw [e]
    exact sq_none L (fun x hx => h x (by simp [hx]))
/-- Of a level above the choice nothing is a choice's mark. -/
theorem g_noq {nm : List Txt} {c : Nat} {l : List Tk} {e : E} (h : G nm (c + 1) l e) (p : Nat) (s : Sq) : sq s (outs 0 p l) = s := by
  refine sq_none _ ?_
  rintro ⟨q, t⟩ hx
  constructor
  · intro ht
    simp only at ht
    subst ht
    obtain ⟨A, B, hl, -, hA⟩ := outs_mem l 0 p q _ hx ⟨0, g_bal h⟩ (by simp) (by simp)
    have := g_out h A _ B hl hA (by simp) (by simp)
    exact absurd this (by simp [okO])
  · intro ht
    simp only at ht
    subst ht
    obtain ⟨A, B, hl, -, hA⟩ := outs_mem l 0 p q _ hx ⟨0, g_bal h⟩ (by simp) (by simp)
    have := g_out h A _ B hl hA (by simp) (by simp)
    exact absurd this (by simp [okO])
/-- Within a choice's arm the scan comes back to where it was. -/
theorem g_arm {nm : List Txt} {c : Nat} {l : List Tk} {e : E} (h : G nm c l e) : ∀ (p f d : Nat), sq (.go (some f) (d + 1)) (outs 0 p l) = .go (some f) (d + 1) := by
  induction h with
  | up _ _ ih => exact ih
  | @sel l1 l2 l3 _ _ _ g1 g2 g3 ih1 ih2 ih3 =>
    intro p f d
    rw [outs_app _ _ _ _ 0 (g_bal g1), outs_other (by simp) (by simp), outs_app _ _ _ _ 0 (g_bal g2), outs_other (by simp) (by simp)]
    simp only [if_true]
    rw [sq_app, ih1, sq_app, show sq (.go (some f) (d + 1)) [(p + l1.length, .ques)] = .go (some f) (d + 1 + 1) from rfl, sq_app, ih2, sq_app,
      show ∀ z, sq (.go (some f) (d + 1 + 1)) [(z, .colon)] = .go (some f) (d + 1) from fun _ => rfl, ih3]
  | bin hk g1 g2 ih1 ih2 => intro p f d; exact g_noq (G.bin hk g1 g2) p _
  | neg g ih => intro p f d; exact g_noq (c := 7) (G.neg g) p _
  | par g ih => intro p f d; exact g_noq (c := 7) (G.par g) p _
  | num v => intro p f d; exact g_noq (nm := nm) (c := 7) (G.num v) p _
  | word a b c d' => intro p f d; exact g_noq (c := 7) (G.word a b c d') p _
  | place a b => intro p f d; exact g_noq (nm := nm) (c := 7) (G.place a b) p _
  | call1 a g _ => intro p f d; exact g_noq (c := 7) (G.call1 a g) p _
  | call2 a g g2 _ _ => intro p f d; exact g_noq (c := 7) (G.call2 a g g2) p _
  | call3 a g g2 g3 _ _ _ => intro p f d; exact g_noq (c := 7) (G.call3 a g g2 g3) p _

theorem sq_hit (f c : Nat) : ∀ L : List (Nat × Tk), sq (.hit f c) L = .hit f c
  | [] => rfl
  | (p, t) :: L => by
    show sq (sqStep (.hit f c) (p, t)) L = _
    exact sq_hit f c L
/-- A choice's marks are found. -/
theorem g_choice {nm : List Txt} {l1 l2 l3 : List Tk} {a b : E} (g1 : G nm 1 l1 a) (g2 : G nm 0 l2 b) (p : Nat) :
    sq (.go none 0) (outs 0 p (l1 ++ .ques :: (l2 ++ .colon :: l3))) = .hit (p + l1.length) (p + l1.length + 1 + l2.length) := by
  rw [outs_app _ _ _ _ 0 (g_bal g1), outs_other (by simp) (by simp), outs_app _ _ _ _ 0 (g_bal g2), outs_other (by simp) (by simp)]
  simp only [if_true]
  rw [sq_app, g_noq g1, sq_app, show sq (.go none 0) [(p + l1.length, .ques)] = .go (some (p + l1.length)) (0 + 1) from rfl, sq_app, g_arm g2, sq_app,
    show ∀ z, sq (.go (some (p + l1.length)) (0 + 1)) [(z, .colon)] = .hit (p + l1.length) z from fun _ => rfl, sq_hit]

end Pz

/-
  The scan for the last operator of a level. Plain lists.
-/
namespace Pz
open Lx
set_option linter.unusedVariables false

/-- Is this an operator of level n with an operand's end ahead? -/
def cutP (n : Nat) (l : List Tk) (x : Nat × Tk) : Bool :=
  match x.2 with
  | .op k _ => k == n && (x.1 != 0 && endT (l.getD (x.1 - 1) .eq))
  | _ => false
/-- The last one. -/
def cutAt (n : Nat) (l : List Tk) : Option (Nat × Tk) := (outs 0 0 l).reverse.find? (cutP n l)

theorem getD_ended {A B : List Tk} {t : Tk} (h : endT ((A ++ t :: B).getD (A.length - 1) .eq) = true) (h0 : A.length ≠ 0) : ended A := by
  have hne : A ≠ [] := fun e => h0 (by rw [e]; rfl)
  refine ⟨A.dropLast, A.getLast hne, (List.dropLast_concat_getLast hne).symm, ?_⟩
  have hlt : A.length - 1 < A.length := by omega
  rw [List.getD_eq_getElem?_getD, List.getElem?_append_left hlt, List.getElem?_eq_getElem hlt] at h
  rw [List.getLast_eq_getElem]
  exact h
theorem cutP_op {n : Nat} {l : List Tk} {q : Nat} {t : Tk} (h : cutP n l (q, t) = true) : ∃ o, t = .op n o ∧ q ≠ 0 ∧ endT (l.getD (q - 1) .eq) = true := by
  cases t with
  | op k o =>
    simp only [cutP, Bool.and_eq_true, beq_iff_eq, bne_iff_ne] at h
    exact ⟨o, by rw [h.1], h.2.1, h.2.2⟩
  | _ => cases h

/-- Of a tighter level there is none. -/
theorem g_nocut {nm : List Txt} {n c : Nat} {l : List Tk} {e : E} (h : G nm c l e) (hc : n + 2 ≤ c) : cutAt n l = none := by
  unfold cutAt
  rw [List.find?_eq_none]
  rintro ⟨q, t⟩ hx hp
  rw [List.mem_reverse] at hx
  obtain ⟨o, rfl, hq, he⟩ := cutP_op hp
  obtain ⟨A, B, rfl, hqA, hA⟩ := outs_mem l 0 0 q _ hx ⟨0, g_bal h⟩ (by simp) (by simp)
  rw [Nat.zero_add] at hqA
  subst hqA
  have h1 : ended A → c ≤ n + 1 := g_out h A _ B rfl hA (by simp) (by simp)
  have := h1 (getD_ended he hq)
  omega

/-- The operator of a level is found. -/
theorem g_cut {nm : List Txt} {n c1 c2 : Nat} {l1 l2 : List Tk} {a b : E} {o : Int} (g1 : G nm c1 l1 a) (g2 : G nm c2 l2 b) (hc : n + 2 ≤ c2) : cutAt n (l1 ++ .op n o :: l2) = some (l1.length, .op n o) := by
  unfold cutAt
  rw [outs_app _ _ _ _ 0 (g_bal g1), outs_other (by simp) (by simp)]
  simp only [if_true, Nat.zero_add]
  rw [List.reverse_append, List.reverse_append, List.append_assoc, List.find?_append]
  have hn : (outs 0 (l1.length + 1) l2).reverse.find? (cutP n (l1 ++ .op n o :: l2)) = none := by
    rw [List.find?_eq_none]
    rintro ⟨q, t⟩ hx hp
    rw [List.mem_reverse] at hx
    obtain ⟨o', rfl, hq, he⟩ := cutP_op hp
    obtain ⟨A, B, rfl, hqA, hA⟩ := outs_mem l2 0 _ q _ hx ⟨0, g_bal g2⟩ (by simp) (by simp)
    have h1 : ended A → c2 ≤ n + 1 := g_out g2 A _ B rfl hA (by simp) (by simp)
    by_cases hA0 : A = []
    · subst hA0
      rw [hqA, List.getD_eq_getElem?_getD, List.getElem?_append_right (by simp)] at he
      simp at he
      cases he
    · have hAl : A.length ≠ 0 := fun e => hA0 (List.length_eq_zero_iff.1 e)
      have h2 := h1 (getD_ended (t := .op n o') (B := B) (by
        rw [hqA] at he
        rw [show l1 ++ Tk.op n o :: (A ++ Tk.op n o' :: B) = (l1 ++ [.op n o]) ++ (A ++ .op n o' :: B) by simp, List.getD_eq_getElem?_getD, List.getElem?_append_right (by simp; omega)] at he
        rw [List.getD_eq_getElem?_getD]
        rw [show l1.length + 1 + A.length - 1 - (l1 ++ [Tk.op n o]).length = A.length - 1 by simp; omega] at he
        exact he) hAl)
      omega
  rw [hn]
  obtain ⟨A, t, rfl, ht⟩ := g_last g1
  have hy : cutP n ((A ++ [t]) ++ .op n o :: l2) ((A ++ [t]).length, .op n o) = true := by
    simp only [cutP, beq_self_eq_true, Bool.true_and, Bool.and_eq_true, bne_iff_ne]
    refine ⟨by simp, ?_⟩
    rw [List.getD_eq_getElem?_getD, List.getElem?_append_left (by simp)]
    simp [ht]
  simp only [Option.none_or, List.reverse_singleton, List.singleton_append]
  rw [List.find?_cons_of_pos hy]

end Pz

/-
  A level of a program's expression, by the cut that the scan finds. Plain lists.
-/
namespace Pz
open Lx
set_option linter.unusedVariables false

theorem g_inv {nm : List Txt} {c n : Nat} {l : List Tk} {e : E} (h : G nm c l e) (hc : c = n + 1) (hn : n < 7) : G nm (n + 2) l e ∨ ∃ o l1 l2 a b, l = l1 ++ .op n o :: l2 ∧ e = .bin o a b ∧ G nm (lefts n) l1 a ∧ G nm (n + 2) l2 b := by
  cases h with
  | up h8 h => subst hc; exact .inl h
  | sel _ _ _ => omega
  | @bin k o l1 l2 a b hk g1 g2 =>
    obtain rfl : k = n := by omega
    exact .inr ⟨o, l1, l2, a, b, rfl, rfl, g1, g2⟩
  | neg _ => omega
  | par _ => omega
  | num _ => omega
  | word _ _ _ _ => omega
  | place _ _ => omega
  | call1 _ _ => omega
  | call2 _ _ _ => omega
  | call3 _ _ _ _ => omega
theorem g_inv0 {nm : List Txt} {c : Nat} {l : List Tk} {e : E} (h : G nm c l e) (hc : c = 0) : G nm 1 l e ∨ ∃ l1 l2 l3 a b d, l = l1 ++ .ques :: (l2 ++ .colon :: l3) ∧ e = .tri 28 a b d ∧ G nm 1 l1 a ∧ G nm 0 l2 b ∧ G nm 0 l3 d := by
  cases h with
  | up h8 h => subst hc; exact .inl h
  | @sel l1 l2 l3 a b d g1 g2 g3 => exact .inr ⟨l1, l2, l3, a, b, d, rfl, rfl, g1, g2, g3⟩
  | bin _ _ _ => omega
  | neg _ => omega
  | par _ => omega
  | num _ => omega
  | word _ _ _ _ => omega
  | place _ _ => omega
  | call1 _ _ => omega
  | call2 _ _ _ => omega
  | call3 _ _ _ _ => omega

theorem pair_none {nm : List Txt} {n : Nat} {l : List Tk} {e : E} (hn : n < 7) (hc : cutAt n l = none) : G nm (n + 1) l e ↔ G nm (n + 2) l e := by
  constructor
  · intro h
    rcases g_inv h rfl hn with h | ⟨o, l1, l2, a, b, rfl, -, g1, g2⟩
    · exact h
    · rw [g_cut g1 g2 (Nat.le_refl _)] at hc; cases hc
  · intro h; exact G.up (by omega) h
theorem cut_split {n p : Nat} {l : List Tk} {t : Tk} (hb : Bal l) (hc : cutAt n l = some (p, t)) : ∃ o, t = .op n o ∧ l = l.take p ++ .op n o :: l.drop (p + 1) ∧ p < l.length := by
  have h1 := List.find?_some hc
  obtain ⟨o, rfl, -, -⟩ := cutP_op h1
  have h2 := List.mem_of_find?_eq_some hc
  rw [List.mem_reverse] at h2
  obtain ⟨A, B, rfl, hq, -⟩ := outs_mem l 0 0 p _ h2 ⟨0, hb⟩ (by simp) (by simp)
  rw [Nat.zero_add] at hq
  subst hq
  refine ⟨o, rfl, ?_, by simp⟩
  rw [List.take_left, List.drop_append]
  simp
theorem pair_some {nm : List Txt} {n p : Nat} {l : List Tk} {o : Int} {e : E} (hn : n < 7) (hb : Bal l) (hc : cutAt n l = some (p, .op n o)) :
    G nm (n + 1) l e ↔ ∃ a b, e = .bin o a b ∧ G nm (lefts n) (l.take p) a ∧ G nm (n + 2) (l.drop (p + 1)) b := by
  constructor
  · intro h
    rcases g_inv h rfl hn with h | ⟨o', l1, l2, a, b, rfl, rfl, g1, g2⟩
    · rw [g_nocut h (Nat.le_refl _)] at hc; cases hc
    · rw [g_cut g1 g2 (Nat.le_refl _)] at hc
      cases hc
      refine ⟨a, b, rfl, by rw [List.take_left]; exact g1, ?_⟩
      have e2 : (l1 ++ Tk.op n o :: l2).drop (l1.length + 1) = l2 := by rw [List.drop_append]; simp
      rw [e2]
      exact g2
  · rintro ⟨a, b, rfl, g1, g2⟩
    obtain ⟨o', ho, hl, -⟩ := cut_split hb hc
    cases ho
    rw [hl]
    exact G.bin hn g1 g2

theorem cond_none {nm : List Txt} {l : List Tk} {e : E} {d : Nat} (hs : sq (.go none 0) (outs 0 0 l) = .go none d) : G nm 0 l e ↔ G nm 1 l e := by
  constructor
  · intro h
    rcases g_inv0 h rfl with h | ⟨l1, l2, l3, a, b, d', rfl, -, g1, g2, g3⟩
    · exact h
    · rw [g_choice g1 g2] at hs; cases hs
  · intro h; exact G.up (by omega) h
theorem cond_bad {nm : List Txt} {l : List Tk} {e : E} (h : G nm 0 l e) : (sq (.go none 0) (outs 0 0 l) = .go none 0 ∧ G nm 1 l e) ∨ ∃ l1 l2 l3 a b d, l = l1 ++ .ques :: (l2 ++ .colon :: l3) ∧ e = .tri 28 a b d ∧ G nm 1 l1 a ∧ G nm 0 l2 b ∧ G nm 0 l3 d ∧ sq (.go none 0) (outs 0 0 l) = .hit l1.length (l1.length + 1 + l2.length) := by
  rcases g_inv0 h rfl with h | ⟨l1, l2, l3, a, b, d', rfl, he, g1, g2, g3⟩
  · exact .inl ⟨g_noq h 0 _, h⟩
  · refine .inr ⟨l1, l2, l3, a, b, d', rfl, he, g1, g2, g3, ?_⟩
    have := g_choice (l3 := l3) g1 g2 0
    simpa using this
theorem cond_hit {nm : List Txt} {l : List Tk} {e : E} {p q : Nat} (hs : sq (.go none 0) (outs 0 0 l) = .hit p q) (hl : l = l.take p ++ .ques :: ((l.drop (p + 1)).take (q - (p + 1)) ++ .colon :: l.drop (q + 1))) :
    G nm 0 l e ↔ ∃ a b d, e = .tri 28 a b d ∧ G nm 1 (l.take p) a ∧ G nm 0 ((l.drop (p + 1)).take (q - (p + 1))) b ∧ G nm 0 (l.drop (q + 1)) d := by
  constructor
  · intro h
    rcases cond_bad h with ⟨h1, -⟩ | ⟨l1, l2, l3, a, b, d, rfl, rfl, g1, g2, g3, h1⟩
    · rw [h1] at hs; cases hs
    · rw [h1] at hs
      cases hs
      have e1 : (l1 ++ Tk.ques :: (l2 ++ .colon :: l3)).take l1.length = l1 := List.take_left
      have e2 : (l1 ++ Tk.ques :: (l2 ++ .colon :: l3)).drop (l1.length + 1) = l2 ++ .colon :: l3 := by rw [List.drop_append]; simp
      have e3 : (l1 ++ Tk.ques :: (l2 ++ .colon :: l3)).drop (l1.length + 1 + l2.length + 1) = l3 := by
        rw [show l1.length + 1 + l2.length + 1 = (l1.length + 1) + (l2.length + 1) by omega, ← List.drop_drop, e2, List.drop_append]
        simp
      refine ⟨a, b, d, rfl, by rw [e1]; exact g1, ?_, by rw [e3]; exact g3⟩
      rw [e2, show l1.length + 1 + l2.length - (l1.length + 1) = l2.length by omega, List.take_left]
      exact g2
  · rintro ⟨a, b, d, rfl, g1, g2, g3⟩
    rw [hl]
    exact G.sel g1 g2 g3

end Pz

/-
  What the scan for a choice has found stands so in the list. Plain lists.
-/
namespace Pz
open Lx
set_option linter.unusedVariables false

theorem outs_cons (d p : Nat) (t : Tk) (l : List Tk) : ∃ (b : Bool) (d' : Nat), outs d p (t :: l) = (if b = true then [(p, t)] else []) ++ outs d' (p + 1) l := by
  simp only [outs]
  split
  · split
    · exact ⟨true, _, rfl⟩
    · exact ⟨false, _, rfl⟩
  · split
    · split
      · exact ⟨true, _, rfl⟩
      · exact ⟨false, _, rfl⟩
    · split
      · exact ⟨true, _, rfl⟩
      · exact ⟨false, _, rfl⟩
theorem sq_bad : ∀ L : List (Nat × Tk), sq .bad L = .bad
  | [] => rfl
  | (p, t) :: L => by
    show sq (sqStep .bad (p, t)) L = _
    exact sq_bad L
theorem sq_found : ∀ (l : List Tk) (d pos : Nat) (f : Option Nat) (k p q : Nat), (f = none → k = 0) → sq (.go f k) (outs d pos l) = .hit p q →
    (∀ p0, f = some p0 → p = p0 ∧ ∃ A B, l = A ++ .colon :: B ∧ q = pos + A.length) ∧
    (f = none → ∃ A B C, l = A ++ .ques :: (B ++ .colon :: C) ∧ p = pos + A.length ∧ q = pos + A.length + 1 + B.length)
  | [], d, pos, f, k, p, q, hf, h => by cases h
  | t :: l, d, pos, f, k, p, q, hf, h => by
    obtain ⟨b, d', ho⟩ := outs_cons d pos t l
    rw [ho] at h
    have same : sq (.go f k) (outs d' (pos + 1) l) = .hit p q → (∀ p0, f = some p0 → p = p0 ∧ ∃ A B, t :: l = A ++ .colon :: B ∧ q = pos + A.length) ∧ (f = none → ∃ A B C, t :: l = A ++ .ques :: (B ++ .colon :: C) ∧ p = pos + A.length ∧ q = pos + A.length + 1 + B.length) := by
      intro h
      obtain ⟨h1, h2⟩ := sq_found l d' (pos + 1) f k p q hf h
      refine ⟨fun p0 hp => ?_, fun hn => ?_⟩
      · obtain ⟨e, A, B, rfl, hq⟩ := h1 p0 hp
        exact ⟨e, t :: A, B, rfl, by simp; omega⟩
      · obtain ⟨A, B, C, rfl, hp, hq⟩ := h2 hn
        exact ⟨t :: A, B, C, rfl, by simp; omega, by simp; omega⟩
    cases b with
    | false => exact same h
    | true =>
      simp only [if_true, List.singleton_append] at h
      have h' : sq (sqStep (.go f k) (pos, t)) (outs d' (pos + 1) l) = .hit p q := h
      cases t with
      | ques =>
        obtain ⟨h1, -⟩ := sq_found l d' (pos + 1) (some (f.getD pos)) (k + 1) p q (fun e => by cases e) h'
        obtain ⟨e, A, B, rfl, hq⟩ := h1 _ rfl
        refine ⟨fun p0 hp => ?_, fun hn => ?_⟩
        · subst hp
          exact ⟨e, .ques :: A, B, rfl, by simp; omega⟩
        · subst hn
          exact ⟨[], A, B, rfl, by simpa using e, by simp; omega⟩
      | colon =>
        match k, hf, h' with
        | 0, _, h' => rw [show sqStep (.go f 0) (pos, .colon) = .bad from rfl, sq_bad] at h'; cases h'
        | 1, hf, h' =>
          rw [show sqStep (.go f 1) (pos, .colon) = .hit (f.getD 0) pos from rfl, sq_hit] at h'
          cases h'
          refine ⟨fun p0 hp => ?_, fun hn => absurd (hf hn) (by simp)⟩
          subst hp
          exact ⟨rfl, [], l, rfl, by simp⟩
        | k + 2, hf, h' =>
          obtain ⟨h1, h2⟩ := sq_found l d' (pos + 1) f (k + 1) p q (fun e => absurd (hf e) (by simp)) h'
          refine ⟨fun p0 hp => ?_, fun hn => absurd (hf hn) (by simp)⟩
          obtain ⟨e, A, B, rfl, hq⟩ := h1 p0 hp
          exact ⟨e, .colon :: A, B, rfl, by simp; omega⟩
      | _ => exact same h'
/-- The split at what the scan has found. -/
theorem sq_split {l : List Tk} {p q : Nat} (h : sq (.go none 0) (outs 0 0 l) = .hit p q) : p < q ∧ q < l.length ∧ l = l.take p ++ .ques :: ((l.drop (p + 1)).take (q - (p + 1)) ++ .colon :: l.drop (q + 1)) := by
  obtain ⟨A, B, C, rfl, hp, hq⟩ := (sq_found l 0 0 none 0 p q (fun _ => rfl) h).2 rfl
  rw [Nat.zero_add] at hp hq
  subst hp hq
  have e1 : (A ++ Tk.ques :: (B ++ .colon :: C)).take A.length = A := List.take_left
  have e2 : (A ++ Tk.ques :: (B ++ .colon :: C)).drop (A.length + 1) = B ++ .colon :: C := by rw [List.drop_append]; simp
  have e3 : (A ++ Tk.ques :: (B ++ .colon :: C)).drop (A.length + 1 + B.length + 1) = C := by
    rw [show A.length + 1 + B.length + 1 = (A.length + 1) + (B.length + 1) by omega, ← List.drop_drop, e2, List.drop_append]
    simp
  refine ⟨by omega, by simp; omega, ?_⟩
  rw [e1, e2, e3, show A.length + 1 + B.length - (A.length + 1) = B.length by omega, List.take_left]

end Pz

/-
  A primary, or a minus, by its first token. Plain lists.
-/
namespace Pz
open Lx
set_option linter.unusedVariables false

theorem g_inv8 {nm : List Txt} {c : Nat} {l : List Tk} {e : E} (h : G nm c l e) (hc : c = 8) :
    (∃ r a, l = .op 5 9 :: r ∧ e = .un 5 a ∧ G nm 8 r a) ∨ (∃ M, l = .lp :: (M ++ [.rp]) ∧ G nm 0 M e) ∨ (∃ v, l = [.num v] ∧ e = .leaf (lf 1 v 0 0 0 0)) ∨
    (∃ s, l = [.word s] ∧ s ≠ wP ∧ s ≠ wQ ∧ calO s = 0 ∧ wd nm s = some e) ∨ (∃ s m, l = .word s :: m ∧ (s = wP ∨ s = wQ) ∧ plc (s == wQ) m = some (e, [])) ∨
    (∃ s M a, l = .word s :: .lp :: (M ++ [.rp]) ∧ ari (calO s) = 1 ∧ e = .un (calO s) a ∧ G nm 0 M a) ∨
    (∃ s M1 M2 a b, l = .word s :: .lp :: ((M1 ++ .comma :: M2) ++ [.rp]) ∧ ari (calO s) = 2 ∧ e = .bin (calO s) a b ∧ G nm 0 M1 a ∧ G nm 0 M2 b) ∨
    (∃ s M1 M2 M3 a b d, l = .word s :: .lp :: ((M1 ++ .comma :: (M2 ++ .comma :: M3)) ++ [.rp]) ∧ ari (calO s) = 3 ∧ e = .tri (calO s) a b d ∧ G nm 0 M1 a ∧ G nm 0 M2 b ∧ G nm 0 M3 d) := by
  cases h with
  | up h8 h => omega
  | sel _ _ _ => omega
  | bin hk _ _ => omega
  | @neg r a g => exact .inl ⟨r, a, rfl, rfl, g⟩
  | @par M _ g => exact .inr (.inl ⟨M, rfl, g⟩)
  | num v => exact .inr (.inr (.inl ⟨v, rfl, rfl⟩))
  | @word s _ h1 h2 h3 h4 => exact .inr (.inr (.inr (.inl ⟨s, rfl, h1, h2, h3, h4⟩)))
  | @place s m _ h1 h2 => exact .inr (.inr (.inr (.inr (.inl ⟨s, m, rfl, h1, h2⟩))))
  | @call1 s M a h1 g => exact .inr (.inr (.inr (.inr (.inr (.inl ⟨s, M, a, rfl, h1, rfl, g⟩)))))
  | @call2 s M1 M2 a b h1 g1 g2 => exact .inr (.inr (.inr (.inr (.inr (.inr (.inl ⟨s, M1, M2, a, b, by simp, h1, rfl, g1, g2⟩))))))
  | @call3 s M1 M2 M3 a b d h1 g1 g2 g3 => exact .inr (.inr (.inr (.inr (.inr (.inr (.inr ⟨s, M1, M2, M3, a, b, d, by simp, h1, rfl, g1, g2, g3⟩))))))

theorem s_neg {nm : List Txt} {r : List Tk} {e : E} : G nm 8 (.op 5 9 :: r) e ↔ ∃ a, e = .un 5 a ∧ G nm 8 r a := by
  constructor
  · intro h
    rcases g_inv8 h rfl with ⟨r', a, hl, he, g⟩ | ⟨M, hl, -⟩ | ⟨v, hl, -⟩ | ⟨s, hl, -⟩ | ⟨s, m, hl, -⟩ | ⟨s, M, a, hl, -⟩ | ⟨s, M1, M2, a, b, hl, -⟩ | ⟨s, M1, M2, M3, a, b, d, hl, -⟩
    · cases hl; exact ⟨a, he, g⟩
    all_goals cases hl
  · rintro ⟨a, rfl, g⟩; exact G.neg g
theorem s_par {nm : List Txt} {r : List Tk} {e : E} : G nm 8 (.lp :: r) e ↔ ∃ M, r = M ++ [.rp] ∧ Bal M ∧ G nm 0 M e := by
  constructor
  · intro h
    rcases g_inv8 h rfl with ⟨r', a, hl, he, g⟩ | ⟨M, hl, g⟩ | ⟨v, hl, -⟩ | ⟨s, hl, -⟩ | ⟨s, m, hl, -⟩ | ⟨s, M, a, hl, -⟩ | ⟨s, M1, M2, a, b, hl, -⟩ | ⟨s, M1, M2, M3, a, b, d, hl, -⟩
    · cases hl
    · cases hl; exact ⟨M, rfl, g_bal g, g⟩
    all_goals cases hl
  · rintro ⟨M, rfl, -, g⟩; exact G.par g
theorem s_num {nm : List Txt} {v : Int} {r : List Tk} {e : E} : G nm 8 (.num v :: r) e ↔ r = [] ∧ e = .leaf (lf 1 v 0 0 0 0) := by
  constructor
  · intro h
    rcases g_inv8 h rfl with ⟨r', a, hl, he, g⟩ | ⟨M, hl, g⟩ | ⟨v', hl, he⟩ | ⟨s, hl, -⟩ | ⟨s, m, hl, -⟩ | ⟨s, M, a, hl, -⟩ | ⟨s, M1, M2, a, b, hl, -⟩ | ⟨s, M1, M2, M3, a, b, d, hl, -⟩
    · cases hl
    · cases hl
    · cases hl; exact ⟨rfl, he⟩
    all_goals cases hl
  · rintro ⟨rfl, rfl⟩; exact G.num v
theorem s_one {nm : List Txt} {s : Txt} {e : E} : G nm 8 [.word s] e ↔ s ≠ wP ∧ s ≠ wQ ∧ calO s = 0 ∧ wd nm s = some e := by
  constructor
  · intro h
    rcases g_inv8 h rfl with ⟨r', a, hl, he, g⟩ | ⟨M, hl, g⟩ | ⟨v', hl, he⟩ | ⟨s', hl, h1⟩ | ⟨s', m, hl, -, hp⟩ | ⟨s, M, a, hl, -⟩ | ⟨s, M1, M2, a, b, hl, -⟩ | ⟨s, M1, M2, M3, a, b, d, hl, -⟩
    · cases hl
    · cases hl
    · cases hl
    · cases hl; exact h1
    · cases hl; cases hp
    all_goals cases hl
  · rintro ⟨h1, h2, h3, h4⟩; exact G.word h1 h2 h3 h4
/-- A word and more behind it: a bracket opens there, and closes at the end. -/
theorem s_more {nm : List Txt} {s : Txt} {r : List Tk} {e : E} (hr : r ≠ []) (h : G nm 8 (.word s :: r) e) : ∃ M, r = .lp :: (M ++ [.rp]) ∧ Bal M := by
  rcases g_inv8 h rfl with ⟨r', a, hl, he, g⟩ | ⟨M, hl, g⟩ | ⟨v', hl, he⟩ | ⟨s', hl, h1⟩ | ⟨s', m, hl, -, hp⟩ | ⟨s', M, a, hl, -, -, g⟩ | ⟨s', M1, M2, a, b, hl, -, -, g1, g2⟩ | ⟨s', M1, M2, M3, a, b, d, hl, -, -, g1, g2, g3⟩
  · cases hl
  · cases hl
  · cases hl
  · cases hl; exact absurd rfl hr
  · cases hl
    obtain ⟨m, hm, hall, -⟩ := plc_split hp
    exact ⟨m, by rw [hm]; simp, dep_inP m 0 hall⟩
  · cases hl; exact ⟨M, rfl, g_bal g⟩
  · cases hl
    exact ⟨_, rfl, by unfold Bal; rw [dep_app, (g_bal g1).at, Option.bind_some, dep_other (by simp) (by simp)]; exact g_bal g2⟩
  · cases hl
    exact ⟨_, rfl, by unfold Bal; rw [dep_app, (g_bal g1).at, Option.bind_some, dep_other (by simp) (by simp), dep_app, (g_bal g2).at, Option.bind_some, dep_other (by simp) (by simp)]; exact g_bal g3⟩
/-- Of an expression no comma is outside of brackets. -/
theorem g_nocomma {nm : List Txt} {c : Nat} {l : List Tk} {e : E} (h : G nm c l e) (p : Nat) : ∀ x ∈ outs 0 p l, x.2 ≠ .comma := by
  rintro ⟨q, t⟩ hx ht
  simp only at ht
  subst ht
  obtain ⟨A, B, hl, -, hA⟩ := outs_mem l 0 p q _ hx ⟨0, g_bal h⟩ (by simp) (by simp)
  exact g_out h A _ B hl hA (by simp) (by simp)

end Pz

/-
  The places outside of brackets, one token more.
-/
namespace Go.Proofs.Ytamekjocchekoaa
open Lx Pz
set_option linter.unusedVariables false

def ozl (L : List Tk) : List Int := (outs 0 0 L).map fun x => (x.1 : Int)
theorem o_lp0 {A : List Tk} (h : dep 0 A = some 0) : dep 0 (A ++ [.lp]) = some 1 ∧ ozl (A ++ [.lp]) = ozl A ++ [(A.length : Int)] := by
  refine ⟨by rw [dep_app, h]; rfl, ?_⟩
  unfold ozl
  rw [outs_app A [.lp] 0 0 0 h]
  simp [outs]
theorem o_lp {A : List Tk} {d : Nat} (h : dep 0 A = some (d + 1)) : dep 0 (A ++ [.lp]) = some (d + 2) ∧ ozl (A ++ [.lp]) = ozl A := by
  refine ⟨by rw [dep_app, h]; rfl, ?_⟩
  unfold ozl
  rw [outs_app A [.lp] 0 0 (d + 1) h]
  simp [outs]
theorem o_rp0 {A : List Tk} (h : dep 0 A = some 0) (B : List Tk) : dep 0 (A ++ .rp :: B) = none := by
  rw [dep_app, h]
  rfl
theorem o_rp1 {A : List Tk} (h : dep 0 A = some 1) : dep 0 (A ++ [.rp]) = some 0 ∧ ozl (A ++ [.rp]) = ozl A ++ [(A.length : Int)] := by
  refine ⟨by rw [dep_app, h]; rfl, ?_⟩
  unfold ozl
  rw [outs_app A [.rp] 0 0 1 h]
  simp [outs]
theorem o_rp2 {A : List Tk} {d : Nat} (h : dep 0 A = some (d + 2)) : dep 0 (A ++ [.rp]) = some (d + 1) ∧ ozl (A ++ [.rp]) = ozl A := by
  refine ⟨by rw [dep_app, h]; rfl, ?_⟩
  unfold ozl
  rw [outs_app A [.rp] 0 0 (d + 2) h]
  simp [outs]
theorem o_t0 {A : List Tk} {t : Tk} (h1 : t ≠ .lp) (h2 : t ≠ .rp) (h : dep 0 A = some 0) : dep 0 (A ++ [t]) = some 0 ∧ ozl (A ++ [t]) = ozl A ++ [(A.length : Int)] := by
  refine ⟨by rw [dep_app, h]; exact dep_other h1 h2 0 [], ?_⟩
  unfold ozl
  rw [outs_app A [t] 0 0 0 h, outs_other h1 h2]
  simp [outs]
theorem o_t {A : List Tk} {t : Tk} {d : Nat} (h1 : t ≠ .lp) (h2 : t ≠ .rp) (h : dep 0 A = some (d + 1)) : dep 0 (A ++ [t]) = some (d + 1) ∧ ozl (A ++ [t]) = ozl A := by
  refine ⟨by rw [dep_app, h]; exact dep_other h1 h2 (d + 1) [], ?_⟩
  unfold ozl
  rw [outs_app A [t] 0 0 (d + 1) h, outs_other h1 h2]
  simp [outs]

theorem outs_len : ∀ (l : List Tk) (d p : Nat), (outs d p l).length ≤ l.length
  | [], d, p => by simp [outs]
  | t :: l, d, p => by
    obtain ⟨b, d', h⟩ := outs_cons d p t l
    rw [h]
    have := outs_len l d' (p + 1)
    simp only [List.length_append, List.length_cons]
    split <;> simp <;> omega
theorem ozl_len (l : List Tk) : (ozl l).length ≤ l.length := by
  unfold ozl
  rw [List.length_map]
  exact outs_len l 0 0

theorem take_cut {L : List Tk} {k : Nat} (hk : k < L.length) (t : Tk) (ht : L[k]? = some t) : L.take (k + 1) = L.take k ++ [t] ∧ L = L.take k ++ t :: L.drop (k + 1) := by
  have e : L[k] = t := by rw [List.getElem?_eq_getElem hk] at ht; exact Option.some.inj ht
  constructor
  · rw [List.take_succ_eq_append_getElem hk, e]
  · rw [← e]
    simp

/-- What a token is to 'outer'. -/
theorem tok_cls {t : Tok} (h : Wf t) : (t.kind = 3 ∧ t.text = [41] ∧ ab t = .rp) ∨ (t.kind = 3 ∧ t.text = [40] ∧ ab t = .lp) ∨ (ab t ≠ .lp ∧ ab t ≠ .rp ∧ ((t.kind == 3) = false ∨ (t.kind = 3 ∧ (t.text == [41]) = false ∧ (t.text == [40]) = false))) := by
  rcases h with ⟨hk, _⟩ | ⟨hk, _⟩ | ⟨hk, hm⟩
  · refine .inr (.inr ⟨?_, ?_, .inl (by rw [hk]; rfl)⟩) <;> simp [ab, hk]
  · refine .inr (.inr ⟨?_, ?_, .inl (by rw [hk]; rfl)⟩) <;> simp [ab, hk]
  · have key : ∀ s ∈ marks.map (·.1), s = [41] ∨ s = [40] ∨ (mkT s ≠ .lp ∧ mkT s ≠ .rp ∧ (s == [41]) = false ∧ (s == [40]) = false) := by decide
    have e : ab t = mkT t.text := by simp [ab, hk]
    rcases key _ hm with h | h | ⟨h1, h2, h3, h4⟩
    · exact .inl ⟨hk, h, by rw [e, h]; rfl⟩
    · exact .inr (.inl ⟨hk, h, by rw [e, h]; rfl⟩)
    · exact .inr (.inr ⟨by rw [e]; exact h1, by rw [e]; exact h2, .inr ⟨hk, h3, h4⟩⟩)

end Go.Proofs.Ytamekjocchekoaa

/-
  The scan of a level, place by place. Plain lists.
-/
namespace Go.Proofs.Ytamekjocchekoaa
open Lx Pz
set_option linter.unusedVariables false

theorem outs_at : ∀ (l : List Tk) (d p q : Nat) (t : Tk), (q, t) ∈ outs d p l → p ≤ q ∧ l[q - p]? = some t
  | [], d, p, q, t, h => by simp [outs] at h
  | x :: l, d, p, q, t, h => by
    obtain ⟨b, d', e⟩ := outs_cons d p x l
    rw [e, List.mem_append] at h
    rcases h with h | h
    · split at h
      · simp only [List.mem_singleton, Prod.mk.injEq] at h
        obtain ⟨rfl, rfl⟩ := h
        simp
      · simp at h
    · obtain ⟨h1, h2⟩ := outs_at l d' (p + 1) q t h
      refine ⟨by omega, ?_⟩
      rw [show q - p = (q - (p + 1)) + 1 by omega, List.getElem?_cons_succ]
      exact h2

/-- The place that a scan looks at. -/
def outG (L : List Tk) (k : Nat) : Nat × Tk := (outs 0 0 L).getD k (0, .eq)
theorem out_at {L : List Tk} {k : Nat} (hk : k < (ozl L).length) : (ozl L).getD k 0 = ((outG L k).1 : Int) ∧ (outG L k).1 < L.length ∧ L[(outG L k).1]? = some (outG L k).2 := by
  have hk' : k < (outs 0 0 L).length := by unfold ozl at hk; simpa using hk
  have e : outG L k = (outs 0 0 L)[k] := by unfold outG; rw [List.getD_eq_getElem?_getD, List.getElem?_eq_getElem hk']; rfl
  have hm : (outG L k) ∈ outs 0 0 L := by rw [e]; exact List.getElem_mem hk'
  obtain ⟨-, h2⟩ := outs_at L 0 0 (outG L k).1 (outG L k).2 hm
  rw [Nat.sub_zero] at h2
  refine ⟨?_, (List.getElem?_eq_some_iff.1 h2).1, h2⟩
  unfold ozl
  rw [List.getD_eq_getElem?_getD, List.getElem?_map, List.getElem?_eq_getElem hk']
  rw [e]
  rfl
theorem cut_none {n : Nat} {L : List Tk} (h : ∀ j, j < (ozl L).length → cutP n L (outG L j) = false) : cutAt n L = none := by
  unfold cutAt
  rw [List.find?_eq_none]
  intro x hx
  rw [List.mem_reverse] at hx
  obtain ⟨j, hj, rfl⟩ := List.mem_iff_getElem.1 hx
  have := h j (by unfold ozl; simpa using hj)
  unfold outG at this
  rw [List.getD_eq_getElem?_getD, List.getElem?_eq_getElem hj] at this
  simp only [Option.getD_some] at this
  rw [this]
  simp
theorem cut_some {n k : Nat} {L : List Tk} (hk : k < (ozl L).length) (h : ∀ j, k + 1 ≤ j → j < (ozl L).length → cutP n L (outG L j) = false) (hc : cutP n L (outG L k) = true) : cutAt n L = some (outG L k) := by
  have hk' : k < (outs 0 0 L).length := by unfold ozl at hk; simpa using hk
  have e : outG L k = (outs 0 0 L)[k] := by unfold outG; rw [List.getD_eq_getElem?_getD, List.getElem?_eq_getElem hk']; rfl
  unfold cutAt
  have hs : outs 0 0 L = (outs 0 0 L).take k ++ outG L k :: (outs 0 0 L).drop (k + 1) := by
    rw [e]
    simp
  rw [hs, List.reverse_append, List.reverse_cons, List.append_assoc, List.find?_append, List.find?_append]
  have h0 : List.find? (cutP n L) ((outs 0 0 L).drop (k + 1)).reverse = none := by
    rw [List.find?_eq_none]
    intro x hx
    rw [List.mem_reverse] at hx
    obtain ⟨j, hj, rfl⟩ := List.mem_iff_getElem.1 hx
    have hj' : k + 1 + j < (outs 0 0 L).length := by simp at hj; omega
    have := h (k + 1 + j) (by omega) (by unfold ozl; simpa using hj')
    unfold outG at this
    rw [List.getD_eq_getElem?_getD, List.getElem?_eq_getElem hj'] at this
    simp only [Option.getD_some] at this
    rw [List.getElem_drop, this]
    simp
  rw [h0]
  simp [hc]
theorem cutP_no {n : Nat} {L : List Tk} {x : Nat × Tk} (h : ∀ o, x.2 ≠ .op n o) : cutP n L x = false := by
  unfold cutP
  split
  · rename_i k o e
    have : (k == n) = false := by
      rw [beq_eq_false_iff_ne]
      rintro rfl
      exact h o e
    rw [this]
    rfl
  · rfl
theorem cutP_at {n : Nat} {L : List Tk} {q : Nat} {o : Int} : cutP n L (q, .op n o) = (q != 0 && endT (L.getD (q - 1) .eq)) := by
  simp [cutP]

end Go.Proofs.Ytamekjocchekoaa

/-
  The numbers of a neighbour's place: the document's scan against the grammar's. Plain lists.
-/
namespace Go.Proofs.Ytamekjocchekoaa
open Lx Pz
set_option linter.unusedVariables false

/-- One number, a minus ahead where it may stand. -/
def it1 (m : Bool) (l : List Tk) : Option (Int × List Tk) :=
  match l with
  | .num v :: r => some (v, r)
  | .op k o :: .num v :: r => if k = 5 ∧ o = 9 ∧ m = true then some (-v, r) else none
  | _ => none
def seqN : Nat → Bool → List Tk → Option (List Int)
  | 0, _, _ => none
  | f + 1, m, l =>
    match it1 m l with
    | some (x, []) => some [x]
    | some (x, .comma :: r) => (seqN f true r).map (x :: ·)
    | _ => none
def finN (q : Bool) (ns : List Int) : Option E :=
  if q then
    match ns with
    | [b, x] => if b = 0 then none else some (.leaf (lf 3 0 b 1 x 0))
    | [b, x, y] => if b = 0 then none else some (.leaf (lf 3 0 b 2 x y))
    | _ => none
  else
    match ns with
    | [x] => some (.leaf (lf 3 0 0 1 x 0))
    | [x, y] => some (.leaf (lf 3 0 0 2 x y))
    | _ => none

theorem it1_len {m : Bool} {l r : List Tk} {x : Int} (h : it1 m l = some (x, r)) : r.length < l.length := by
  unfold it1 at h
  split at h
  · cases h; simp
  · split at h
    · cases h; simp; omega
    · cases h
  · cases h
theorem it1_off (l : List Tk) : it1 true l = off l := by
  unfold it1
  split
  · simp [off]
  · rename_i k o v r
    simp [off]
  · rename_i h1 h2
    unfold off
    split
    · rename_i v r; exact absurd rfl (h1 v r)
    · rename_i k o v r; exact absurd rfl (h2 k o v r)
    · rfl
theorem off_app (l : List Tk) (t : Tk) (ht : ∀ v, t ≠ .num v) : off (l ++ [t]) = (off l).map fun x => (x.1, x.2 ++ [t]) := by
  match l with
  | [] => cases t <;> first | rfl | exact absurd rfl (ht _)
  | [a] => cases a <;> cases t <;> first | rfl | exact absurd rfl (ht _)
  | a :: b :: r =>
    cases a with
    | num v => rfl
    | op k o =>
      cases b with
      | num v => simp only [off, List.cons_append]; split <;> rfl
      | _ => rfl
    | _ => rfl
theorem offs_iff {b : Int} {l : List Tk} {e : E} : offs b (l ++ [.rp]) = some (e, []) ↔ (∃ x, off l = some (x, []) ∧ e = .leaf (lf 3 0 b 1 x 0)) ∨ (∃ x y r, off l = some (x, .comma :: r) ∧ off r = some (y, []) ∧ e = .leaf (lf 3 0 b 2 x y)) := by
  unfold offs
  rw [off_app l .rp (by simp)]
  cases h : off l with
  | none => simp
  | some xr =>
    obtain ⟨x, r⟩ := xr
    cases r with
    | nil => simp [eq_comm]
    | cons t r =>
      cases t with
      | comma =>
        simp only [Option.map_some, List.cons_append, Option.some.injEq, Prod.mk.injEq, List.cons.injEq, reduceCtorEq, and_false, false_and, exists_false, false_or, true_and]
        rw [off_app r .rp (by simp)]
        cases h2 : off r with
        | none =>
          simp only [Option.map_none, reduceCtorEq, false_iff, not_exists, not_and]
          rintro x' y r' ⟨rfl, rfl⟩ h3
          rw [h2] at h3; cases h3
        | some yr =>
          obtain ⟨y, r2⟩ := yr
          cases r2 with
          | nil =>
            simp only [Option.map_some, List.nil_append, Option.some.injEq, Prod.mk.injEq, and_true]
            constructor
            · rintro rfl; exact ⟨x, y, r, ⟨rfl, rfl⟩, h2, rfl⟩
            · rintro ⟨x', y', r', ⟨rfl, rfl⟩, h3, rfl⟩; rw [h2] at h3; cases h3; rfl
          | cons u r2 =>
            simp only [Option.map_some, List.cons_append]
            constructor
            · intro h3
              cases u <;> first | (simp at h3; done) | (cases h3)
            · rintro ⟨x', y', r', ⟨rfl, rfl⟩, h3, rfl⟩; rw [h2] at h3; cases h3
      | rp => simp
      | _ => simp

theorem seqN_mono : ∀ (f : Nat) (m : Bool) (l : List Tk), l.length < f → seqN f m l = seqN (f + 1) m l
  | 0, m, l, h => by omega
  | f + 1, m, l, h => by
    rw [seqN, seqN]
    cases h1 : it1 m l with
    | none => rfl
    | some xr =>
      obtain ⟨x, r⟩ := xr
      have := it1_len h1
      cases r with
      | nil => rfl
      | cons t r =>
        cases t with
        | comma =>
          simp only
          rw [seqN_mono f true r (by simp at this; omega)]
        | _ => rfl
theorem seqN_fuel {f g : Nat} {m : Bool} {l : List Tk} (h1 : l.length < f) (h2 : f ≤ g) : seqN f m l = seqN g m l := by
  induction g with
  | zero => omega
  | succ g ih =>
    by_cases e : f = g + 1
    · rw [e]
    · rw [ih (by omega), seqN_mono g m l (by omega)]
/-- With fuel enough. -/
def sqN (m : Bool) (l : List Tk) : Option (List Int) := seqN (l.length + 1) m l
theorem sqN_eq (m : Bool) (l : List Tk) : sqN m l = match it1 m l with
    | some (x, []) => some [x]
    | some (x, .comma :: r) => (sqN true r).map (x :: ·)
    | _ => none := by
  unfold sqN
  rw [seqN]
  cases h1 : it1 m l with
  | none => rfl
  | some xr =>
    obtain ⟨x, r⟩ := xr
    have := it1_len h1
    cases r with
    | nil => rfl
    | cons t r =>
      cases t with
      | comma =>
        simp only
        rw [seqN_fuel (f := r.length + 1) (g := l.length) (by omega) (by simp at this; omega)]
      | _ => rfl
theorem sqN_none {m : Bool} {l : List Tk} (h : it1 m l = none) : sqN m l = none := by rw [sqN_eq, h]
theorem sqN_last {m : Bool} {l : List Tk} {x : Int} (h : it1 m l = some (x, [])) : sqN m l = some [x] := by rw [sqN_eq, h]
theorem sqN_more {m : Bool} {l r : List Tk} {x : Int} (h : it1 m l = some (x, .comma :: r)) : sqN m l = (sqN true r).map (x :: ·) := by rw [sqN_eq, h]
theorem sqN_bad {m : Bool} {l r : List Tk} {x : Int} {t : Tk} (h : it1 m l = some (x, t :: r)) (ht : t ≠ .comma) : sqN m l = none := by
  rw [sqN_eq, h]
  cases t <;> first | rfl | exact absurd rfl ht

theorem sqN_ne {m : Bool} : ∀ {l : List Tk}, sqN m l ≠ some [] := by
  intro l h
  rw [sqN_eq] at h
  split at h
  · cases h
  · rename_i x r _
    cases h2 : sqN true r with
    | none => rw [h2] at h; cases h
    | some ns => rw [h2] at h; cases h
  · cases h
theorem sqN_one {l : List Tk} {x : Int} : sqN true l = some [x] ↔ off l = some (x, []) := by
  rw [← it1_off, sqN_eq]
  constructor
  · intro h
    split at h
    · rename_i y h1; cases h; exact h1
    · rename_i y r _
      cases h2 : sqN true r with
      | none => rw [h2] at h; cases h
      | some ns =>
        rw [h2] at h
        simp only [Option.map_some, Option.some.injEq, List.cons.injEq] at h
        obtain ⟨-, rfl⟩ := h
        exact absurd h2 sqN_ne
    · cases h
  · intro h; rw [h]
theorem sqN_two {m : Bool} {l : List Tk} {x y : Int} : sqN m l = some [x, y] ↔ ∃ r, it1 m l = some (x, .comma :: r) ∧ off r = some (y, []) := by
  rw [sqN_eq]
  constructor
  · intro h
    split at h
    · cases h
    · rename_i z r h1
      cases h2 : sqN true r with
      | none => rw [h2] at h; cases h
      | some ns =>
        rw [h2] at h
        simp only [Option.map_some, Option.some.injEq, List.cons.injEq] at h
        obtain ⟨rfl, rfl⟩ := h
        exact ⟨r, h1, sqN_one.1 h2⟩
    · cases h
  · rintro ⟨r, h1, h2⟩
    rw [h1]
    simp only
    rw [sqN_one.2 h2]
    rfl
theorem sqN_three {m : Bool} {l : List Tk} {b x y : Int} : sqN m l = some [b, x, y] ↔ ∃ r r2, it1 m l = some (b, .comma :: r) ∧ off r = some (x, .comma :: r2) ∧ off r2 = some (y, []) := by
  rw [sqN_eq]
  constructor
  · intro h
    split at h
    · cases h
    · rename_i z r h1
      cases h2 : sqN true r with
      | none => rw [h2] at h; cases h
      | some ns =>
        rw [h2] at h
        simp only [Option.map_some, Option.some.injEq, List.cons.injEq] at h
        obtain ⟨rfl, rfl⟩ := h
        obtain ⟨r2, h3, h4⟩ := sqN_two.1 h2
        rw [it1_off] at h3
        exact ⟨r, r2, h1, h3, h4⟩
    · cases h
  · rintro ⟨r, r2, h1, h2, h3⟩
    rw [h1]
    simp only
    rw [sqN_two.2 ⟨r2, by rw [it1_off]; exact h2, h3⟩]
    rfl
theorem it1_num {l r : List Tk} {v : Int} : it1 false l = some (v, r) ↔ l = .num v :: r := by
  constructor
  · intro h
    unfold it1 at h
    split at h
    · cases h; rfl
    · rename_i k o v' r'
      split at h
      · rename_i h2; exact absurd h2.2.2 (by decide)
      · cases h
    · cases h
  · rintro rfl; rfl

theorem finN_some {q : Bool} {ns : List Int} {e : E} (h : finN q ns = some e) : (q = false ∧ ∃ x, ns = [x] ∧ e = .leaf (lf 3 0 0 1 x 0)) ∨ (q = false ∧ ∃ x y, ns = [x, y] ∧ e = .leaf (lf 3 0 0 2 x y)) ∨ (q = true ∧ ∃ b x, ns = [b, x] ∧ b ≠ 0 ∧ e = .leaf (lf 3 0 b 1 x 0)) ∨ (q = true ∧ ∃ b x y, ns = [b, x, y] ∧ b ≠ 0 ∧ e = .leaf (lf 3 0 b 2 x y)) := by
  unfold finN at h
  cases q with
  | true =>
    rw [if_pos rfl] at h
    split at h
    · rename_i b x
      split at h
      · cases h
      · rename_i hb; cases h; exact .inr (.inr (.inl ⟨rfl, b, x, rfl, hb, rfl⟩))
    · rename_i b x y
      split at h
      · cases h
      · rename_i hb; cases h; exact .inr (.inr (.inr ⟨rfl, b, x, y, rfl, hb, rfl⟩))
    · cases h
  | false =>
    rw [if_neg (by decide)] at h
    split at h
    · rename_i x; cases h; exact .inl ⟨rfl, x, rfl, rfl⟩
    · rename_i x y; cases h; exact .inr (.inl ⟨rfl, x, y, rfl, rfl⟩)
    · cases h

theorem nb_iff {q : Bool} {L : List Tk} {e : E} : plc q (.lp :: (L ++ [.rp])) = some (e, []) ↔ ∃ ns, sqN (!q) L = some ns ∧ finN q ns = some e := by
  cases q with
  | false =>
    rw [show plc false (.lp :: (L ++ [.rp])) = offs 0 (L ++ [.rp]) from rfl, offs_iff]
    simp only [Bool.not_false]
    constructor
    · rintro (⟨x, h1, rfl⟩ | ⟨x, y, r, h1, h2, rfl⟩)
      · exact ⟨[x], sqN_one.2 h1, rfl⟩
      · exact ⟨[x, y], sqN_two.2 ⟨r, by rw [it1_off]; exact h1, h2⟩, rfl⟩
    · rintro ⟨ns, h1, h2⟩
      rcases finN_some h2 with ⟨-, x, rfl, rfl⟩ | ⟨-, x, y, rfl, rfl⟩ | ⟨h, -⟩ | ⟨h, -⟩
      · exact .inl ⟨x, sqN_one.1 h1, rfl⟩
      · obtain ⟨r, h3, h4⟩ := sqN_two.1 h1
        rw [it1_off] at h3
        exact .inr ⟨x, y, r, h3, h4, rfl⟩
      · cases h
      · cases h
  | true =>
    simp only [Bool.not_true]
    constructor
    · intro h
      match L, h with
      | .num v :: .comma :: r, h =>
        have h' : (if v = 0 then none else offs v (r ++ [.rp])) = some (e, []) := h
        split at h'
        · cases h'
        · rename_i hv
          rcases offs_iff.1 h' with ⟨x, h1, rfl⟩ | ⟨x, y, r2, h1, h2, rfl⟩
          · exact ⟨[v, x], sqN_two.2 ⟨r, rfl, h1⟩, by simp [finN, hv]⟩
          · exact ⟨[v, x, y], sqN_three.2 ⟨r, r2, rfl, h1, h2⟩, by simp [finN, hv]⟩
      | [], h => cases h
      | [.num v], h => cases h
      | .num v :: .num _ :: _, h => cases h
      | .num v :: .word _ :: _, h => cases h
      | .num v :: .op _ _ :: _, h => cases h
      | .num v :: .ques :: _, h => cases h
      | .num v :: .colon :: _, h => cases h
      | .num v :: .lp :: _, h => cases h
      | .num v :: .rp :: _, h => cases h
      | .num v :: .semi :: _, h => cases h
      | .num v :: .eq :: _, h => cases h
      | .word _ :: _, h => cases h
      | .op _ _ :: _, h => cases h
      | .ques :: _, h => cases h
      | .colon :: _, h => cases h
      | .lp :: _, h => cases h
      | .rp :: _, h => cases h
      | .comma :: _, h => cases h
      | .semi :: _, h => cases h
      | .eq :: _, h => cases h
    · rintro ⟨ns, h1, h2⟩
      rcases finN_some h2 with ⟨h, -⟩ | ⟨h, -⟩ | ⟨-, b, x, rfl, hb, rfl⟩ | ⟨-, b, x, y, rfl, hb, rfl⟩
      · cases h
      · cases h
      · obtain ⟨r, h3, h4⟩ := sqN_two.1 h1
        obtain rfl := it1_num.1 h3
        show (if b = 0 then none else offs b (r ++ [.rp])) = _
        rw [if_neg hb]
        exact offs_iff.2 (.inl ⟨x, h4, rfl⟩)
      · obtain ⟨r, r2, h3, h4, h5⟩ := sqN_three.1 h1
        obtain rfl := it1_num.1 h3
        show (if b = 0 then none else offs b (r ++ [.rp])) = _
        rw [if_neg hb]
        exact offs_iff.2 (.inr ⟨x, y, r2, h4, h5, rfl⟩)

end Go.Proofs.Ytamekjocchekoaa

/-
  The arguments of a call, cut at the outer commas. Plain lists.
-/
namespace Go.Proofs.Ytamekjocchekoaa
open Lx Pz
set_option linter.unusedVariables false

inductive F2 {α β : Type} (R : α → β → Prop) : List α → List β → Prop
  | nil : F2 R [] []
  | cons {a : α} {b : β} {l : List α} {m : List β} : R a b → F2 R l m → F2 R (a :: l) (b :: m)
def isC (x : Nat × Tk) : Bool := decide (x.2 = .comma)
def cmp (p : Nat) (L : List Tk) : List Nat := ((outs 0 p L).filter isC).map (·.1)
def sg : Nat → List Nat → List Tk → List (List Tk)
  | _, [], l => [l]
  | p, q :: qs, l => l.take (q - p) :: sg (q + 1) qs (l.drop (q - p + 1))
def joinC : List (List Tk) → List Tk
  | [] => []
  | [l] => l
  | l :: ls => l ++ .comma :: joinC ls
theorem joinC_cons (l : List Tk) {ls : List (List Tk)} (h : ls ≠ []) : joinC (l :: ls) = l ++ .comma :: joinC ls := by
  cases ls with
  | nil => exact absurd rfl h
  | cons a ls => rfl
theorem sg_ne (p : Nat) (qs : List Nat) (l : List Tk) : sg p qs l ≠ [] := by cases qs <;> simp [sg]
theorem sg_len : ∀ (qs : List Nat) (p : Nat) (l : List Tk), (sg p qs l).length = qs.length + 1
  | [], p, l => rfl
  | q :: qs, p, l => by simp [sg, sg_len qs]

theorem outs_sorted : ∀ (l : List Tk) (d p : Nat), (outs d p l).Pairwise fun a b => a.1 < b.1
  | [], d, p => by simp [outs]
  | t :: l, d, p => by
    obtain ⟨b, d', e⟩ := outs_cons d p t l
    rw [e]
    have h := outs_sorted l d' (p + 1)
    split
    · rw [List.singleton_append, List.pairwise_cons]
      exact ⟨fun x hx => by have := (outs_at l d' (p + 1) x.1 x.2 hx).1; simp; omega, h⟩
    · simpa using h
theorem cmp_sorted (p : Nat) (L : List Tk) : (cmp p L).Pairwise (· < ·) := by
  unfold cmp
  rw [List.pairwise_map]
  exact (outs_sorted L 0 p).filter _
theorem cmp_at {p q : Nat} {L : List Tk} (h : q ∈ cmp p L) : p ≤ q ∧ L[q - p]? = some .comma := by
  unfold cmp at h
  rw [List.mem_map] at h
  obtain ⟨⟨q', t⟩, hx, rfl⟩ := h
  rw [List.mem_filter] at hx
  obtain ⟨h1, h2⟩ := hx
  have h3 := outs_at L 0 p q' t h1
  have h4 : t = .comma := by simpa [isC] using h2
  rw [h4] at h3
  exact h3
theorem sg_join : ∀ (qs : List Nat) (p : Nat) (l : List Tk), qs.Pairwise (· < ·) → (∀ q ∈ qs, p ≤ q ∧ l[q - p]? = some .comma) → joinC (sg p qs l) = l
  | [], p, l, _, _ => rfl
  | q :: qs, p, l, hs, hq => by
    obtain ⟨h1, h2⟩ := hq q (by simp)
    rw [List.pairwise_cons] at hs
    rw [sg, joinC_cons _ (sg_ne _ _ _), sg_join qs (q + 1) (l.drop (q - p + 1)) hs.2 (fun q' hq' => by
      have h3 := hs.1 q' hq'
      obtain ⟨h4, h5⟩ := hq q' (by simp [hq'])
      refine ⟨by omega, ?_⟩
      rw [List.getElem?_drop, show q - p + 1 + (q' - (q + 1)) = q' - p by omega]
      exact h5)]
    have hlt := (List.getElem?_eq_some_iff.1 h2).1
    rw [List.getElem?_eq_getElem hlt] at h2
    rw [← Option.some.inj h2]
    simp
theorem sg_whole (L : List Tk) : joinC (sg 0 (cmp 0 L) L) = L := sg_join _ _ _ (cmp_sorted 0 L) (fun q hq => cmp_at hq)

theorem cmp_none {l : List Tk} {p : Nat} (h : ∀ x ∈ outs 0 p l, x.2 ≠ .comma) : cmp p l = [] := by
  unfold cmp
  rw [List.map_eq_nil_iff, List.filter_eq_nil_iff]
  intro x hx
  simp [isC, h x hx]
theorem cmp_cut {l1 l2 : List Tk} {p : Nat} (hb : Bal l1) (h : ∀ x ∈ outs 0 p l1, x.2 ≠ .comma) : cmp p (l1 ++ .comma :: l2) = (p + l1.length) :: cmp (p + l1.length + 1) l2 := by
  unfold cmp
  rw [outs_app l1 _ 0 p 0 hb, outs_other (by simp) (by simp), List.filter_append, List.map_append]
  have := cmp_none h
  unfold cmp at this
  rw [this]
  simp [isC]
theorem join_sg {nm : List Txt} : ∀ (ls : List (List Tk)) (es : List E) (p : Nat), F2 (G nm 0) ls es → ls ≠ [] → sg p (cmp p (joinC ls)) (joinC ls) = ls
  | [], es, p, h, hne => absurd rfl hne
  | [l], es, p, h, _ => by
    cases h with
    | cons h1 h2 =>
      show sg p (cmp p l) l = [l]
      rw [cmp_none (g_nocomma h1 p)]
      rfl
  | l :: l' :: ls, es, p, h, _ => by
    cases h with
    | cons h1 h2 =>
      rw [joinC_cons l (by simp), cmp_cut (g_bal h1) (g_nocomma h1 p), sg]
      rw [show p + l.length - p = l.length by omega, List.take_left]
      rw [show List.drop (l.length + 1) (l ++ Tk.comma :: joinC (l' :: ls)) = joinC (l' :: ls) by
        rw [← List.drop_drop, List.drop_left]; rfl]
      rw [join_sg (l' :: ls) _ (p + l.length + 1) h2 (by simp)]

/-- What a call of an operator reads. -/
def CallQ (nm : List Txt) (op : Int) (L : List Tk) (ex : E) : Prop := op ≠ 0 ∧ ∃ es, F2 (G nm 0) (sg 0 (cmp 0 L) L) es ∧ es.length = ari op ∧ ex = mkE op es
theorem call_iff {nm : List Txt} {s : Txt} {M : List Tk} {ex : E} (h1 : s ≠ wP) (h2 : s ≠ wQ) : G nm 8 (.word s :: .lp :: (M ++ [.rp])) ex ↔ CallQ nm (calO s) M ex := by
  have inj : ∀ {A B : List Tk}, A ++ [Tk.rp] = B ++ [.rp] → A = B := fun h => List.append_inj_left' h rfl
  constructor
  · intro h
    rcases g_inv8 h rfl with ⟨r', a, hl, he, g⟩ | ⟨M', hl, g⟩ | ⟨v', hl, he⟩ | ⟨s', hl, h3⟩ | ⟨s', m, hl, hs, hp⟩ | ⟨s', M', a, hl, he, ha, g⟩ | ⟨s', M1, M2, a, b, hl, he, ha, g1, g2⟩ | ⟨s', M1, M2, M3, a, b, d, hl, he, ha, g1, g2, g3⟩
    · cases hl
    · cases hl
    · cases hl
    · cases hl
    · cases hl
      rcases hs with rfl | rfl
      · exact absurd rfl h1
      · exact absurd rfl h2
    · simp only [List.cons.injEq, Tk.word.injEq, true_and] at hl
      obtain ⟨rfl, hl⟩ := hl
      obtain rfl := inj hl
      refine ⟨ari_ne1 (n := 1) (by assumption) (by omega), [a], ?_, by simp; omega, ?_⟩
      · have := join_sg [M] [a] 0 (.cons g .nil) (by simp)
        rw [show joinC [M] = M from rfl] at this
        rw [this]
        exact .cons g .nil
      · first | exact he | exact ha
    · simp only [List.cons.injEq, Tk.word.injEq, true_and] at hl
      obtain ⟨rfl, hl⟩ := hl
      obtain rfl : M = M1 ++ .comma :: M2 := inj hl
      refine ⟨ari_ne1 (n := 2) (by assumption) (by omega), [a, b], ?_, by simp; omega, ?_⟩
      · have := join_sg [M1, M2] [a, b] 0 (.cons g1 (.cons g2 .nil)) (by simp)
        rw [show joinC [M1, M2] = M1 ++ .comma :: M2 from rfl] at this
        rw [this]
        exact .cons g1 (.cons g2 .nil)
      · first | exact he | exact ha
    · simp only [List.cons.injEq, Tk.word.injEq, true_and] at hl
      obtain ⟨rfl, hl⟩ := hl
      obtain rfl : M = M1 ++ .comma :: (M2 ++ .comma :: M3) := inj hl
      refine ⟨ari_ne1 (n := 3) (by assumption) (by omega), [a, b, d], ?_, by simp; omega, ?_⟩
      · have := join_sg [M1, M2, M3] [a, b, d] 0 (.cons g1 (.cons g2 (.cons g3 .nil))) (by simp)
        rw [show joinC [M1, M2, M3] = M1 ++ .comma :: (M2 ++ .comma :: M3) from rfl] at this
        rw [this]
        exact .cons g1 (.cons g2 (.cons g3 .nil))
      · first | exact he | exact ha
  · rintro ⟨h0, es, hf, hl, rfl⟩
    have hw := sg_whole M
    generalize sg 0 (cmp 0 M) M = ls at hf hw
    have ha := calO_ari h0
    cases hf with
    | nil => simp at hl; omega
    | @cons l a ls es g1 hf =>
      cases hf with
      | nil =>
        subst hw
        exact .call1 (by simpa using hl.symm) g1
      | @cons l2 b ls es g2 hf =>
        cases hf with
        | nil =>
          subst hw
          have := G.call2 (nm := nm) (s := s) (by simpa using hl.symm) g1 g2
          simpa [joinC, mkE] using this
        | @cons l3 d ls es g3 hf =>
          cases hf with
          | nil =>
            subst hw
            have := G.call3 (nm := nm) (s := s) (by simpa using hl.symm) g1 g2 g3
            simpa [joinC, mkE] using this
          | cons g4 hf => simp at hl; omega

/-- The pieces by their numbers. -/
def cutN (L : List Tk) : List Nat := cmp 0 L
theorem sg_get : ∀ (qs : List Nat) (p : Nat) (l : List Tk) (i : Nat), i ≤ qs.length → qs.Pairwise (· < ·) → (∀ q ∈ qs, p ≤ q ∧ q - p < l.length) →
    (sg p qs l)[i]? = some (((l.take ((qs ++ [p + l.length]).getD i 0 - p)).drop (if i = 0 then 0 else qs.getD (i - 1) 0 + 1 - p)))
  | [], p, l, 0, _, _, _ => by simp [sg]
  | q :: qs, p, l, 0, _, _, _ => by simp [sg]
  | q :: qs, p, l, i + 1, hi, hs, hq => by
    rw [List.pairwise_cons] at hs
    obtain ⟨h1, h2⟩ := hq q (by simp)
    rw [sg, List.getElem?_cons_succ, sg_get qs (q + 1) (l.drop (q - p + 1)) i (by simpa using hi) hs.2 (fun q' hq' => by
      have h3 := hs.1 q' hq'
      obtain ⟨h4, h5⟩ := hq q' (by simp [hq'])
      simp only [List.length_drop]
      omega)]
    have hlen : q + 1 + (l.drop (q - p + 1)).length = p + l.length := by simp only [List.length_drop]; omega
    rw [hlen]
    congr 1
    simp only [Nat.add_one_ne_zero, if_false, Nat.add_sub_cancel, List.cons_append, List.getD_cons_succ]
    have hx : ∀ z, q + 1 ≤ z → z ≤ p + l.length → (l.drop (q - p + 1)).take (z - (q + 1)) = (l.take (z - p)).drop (q - p + 1) := by
      intro z hz1 hz2
      rw [List.drop_take]
      congr 1
      omega
    have hz : q + 1 ≤ (qs ++ [p + l.length]).getD i 0 ∧ (qs ++ [p + l.length]).getD i 0 ≤ p + l.length := by
      have hi' : i ≤ qs.length := by simpa using hi
      by_cases hi2 : i < qs.length
      · rw [List.getD_eq_getElem?_getD, List.getElem?_append_left hi2, List.getElem?_eq_getElem hi2]
        have hm : qs[i] ∈ qs := List.getElem_mem hi2
        have h3 := hs.1 _ hm
        have h4 := hq qs[i] (by simp)
        simp only [Option.getD_some]
        omega
      · have : i = qs.length := by omega
        subst this
        simp
        omega
    rw [hx _ hz.1 hz.2, List.drop_drop]
    congr 1
    by_cases hi0 : i = 0
    · subst hi0
      simp
      omega
    · rw [if_neg hi0]
      obtain ⟨j, rfl⟩ : ∃ j, i = j + 1 := ⟨i - 1, by omega⟩
      simp only [Nat.add_sub_cancel, List.getD_cons_succ]
      have hj : j < qs.length := by simp at hi; omega
      rw [List.getD_eq_getElem?_getD, List.getElem?_eq_getElem hj]
      have h3 := hs.1 qs[j] (List.getElem_mem hj)
      simp only [Option.getD_some]
      omega

end Go.Proofs.Ytamekjocchekoaa
