/-
  What inOrder takes: rows of expressions. Plain lists.
-/
import Derived.Test.YtodgjjkpbcadoaaDoorGr7
namespace Go.Proofs.YtodgjjkpbcadoaaDoor
open Lx Pz
set_option linter.unusedVariables false

/-- The nodes and the binds of expressions, one for each bind and one more. -/
def Good (BS : List Int) (NS : List Nd) : Prop := ∃ es ex, NS = flL es 0 ++ ex.flat (szL es) ∧ BS = bdL es 0 ∧ (∀ j e, es[j]? = some e → Gd j e) ∧ Gd es.length ex

theorem flL_app : ∀ (A B : List E) (s : Nat), flL (A ++ B) s = flL A s ++ flL B (s + szL A)
  | [], B, s => by simp [flL, szL]
  | a :: A, B, s => by simp only [List.cons_append, flL, szL, flL_app A B, List.append_assoc, Nat.add_assoc]
theorem szL_app : ∀ (A B : List E), szL (A ++ B) = szL A + szL B
  | [], B => by simp [szL]
  | a :: A, B => by simp only [List.cons_append, szL, szL_app A B]; omega
theorem bdL_app : ∀ (A B : List E) (s : Nat), bdL (A ++ B) s = bdL A s ++ bdL B (s + szL A)
  | [], B, s => by simp [bdL, szL]
  | a :: A, B, s => by simp only [List.cons_append, bdL, szL, bdL_app A B, Nat.add_assoc]
theorem bdL_len : ∀ (es : List E) (s : Nat), (bdL es s).length = es.length
  | [], s => rfl
  | a :: es, s => by simp [bdL, bdL_len es]
theorem flL_len : ∀ (es : List E) (s : Nat), (flL es s).length = szL es
  | [], s => rfl
  | a :: es, s => by simp [flL, szL, flL_len es, E.flat_len]

/-- A step that is taken: the parts are at the row's end. -/
theorem step_some {BS : List Int} {i : Nat} {n : Nd} {L : List Int} {bd : Nat} {t : List Int × Nat} (h : stepP BS i n (L, bd) = some t) :
    ∃ A B, L = A ++ B ∧ prZ n.op = B.length ∧ B.length ≤ 3 ∧ fldP n bd = true ∧ tkE B n = true ∧ lastP BS i A bd = some t := by
  cases hw : wthn (prZ n.op) 0 L.length with
  | false => rw [step_out hw] at h; cases h
  | true =>
    obtain ⟨A, B, rfl, hp, h3⟩ := step_parts hw
    rw [step_in hp] at h
    split at h
    · rename_i hc
      simp only [Bool.and_eq_true] at hc
      exact ⟨A, B, rfl, hp, h3, hc.1, hc.2, h⟩
    · cases h

/-- What stands on the row behind some nodes. -/
def Inv (BS : List Int) (P : List Nd) (L : List Int) (bd : Nat) : Prop :=
  ∃ es st, P = flL es 0 ++ flL st (szL es) ∧ L = bdL st (szL es) ∧ es.length = bd ∧ bdL es 0 = BS.take bd ∧ bd ≤ BS.length ∧ (∀ j e, es[j]? = some e → Gd j e) ∧ (∀ e ∈ st, Gd bd e)

theorem bdL_split {st : List E} {s : Nat} {A B : List Int} (h : bdL st s = A ++ B) : ∃ s1 s2, st = s1 ++ s2 ∧ bdL s1 s = A ∧ bdL s2 (s + szL s1) = B := by
  have hl : A.length ≤ st.length := by rw [← bdL_len st s, h, List.length_append]; omega
  refine ⟨st.take A.length, st.drop A.length, (List.take_append_drop _ _).symm, ?_⟩
  have e := bdL_app (st.take A.length) (st.drop A.length) s
  rw [List.take_append_drop, h] at e
  have h2 := List.append_inj e (by rw [bdL_len, List.length_take]; omega)
  exact ⟨h2.1.symm, h2.2.symm⟩

/-- An expression of these parts. -/
theorem mk_expr {st : List E} {s bd : Nat} {n : Nd} (hp : prZ n.op = st.length) (h3 : st.length ≤ 3) (hf : fldP n bd = true) (ht : tkE (bdL st s) n = true) (hg : ∀ e ∈ st, Gd bd e) : ∃ e : E, e.flat s = flL st s ++ [n] ∧ e.size = szL st + 1 ∧ Gd bd e := by
  have hz : n.op ≠ 3 → prZ n.op ≠ 0 → n.k = 0 ∧ n.back = 0 ∧ n.co = 0 ∧ n.x = 0 ∧ n.y = 0 := by
    intro ho hpz
    have h1 : n.op ≠ 1 := by intro e; rw [e] at hpz; exact hpz rfl
    have h2 : n.op ≠ 2 := by intro e; rw [e] at hpz; exact hpz rfl
    have h4 : n.op ≠ 4 := by intro e; rw [e] at hpz; exact hpz rfl
    simp [fldP, ho, mostZ, h1, h2, h4, plc0, wthn] at hf
    omega
  have h30 : prZ n.op ≠ 0 → n.op ≠ 3 := by intro h e; rw [e] at h; exact h rfl
  simp only [tkE, Bool.and_eq_true, beq_iff_eq] at ht
  match st, h3, hp, ht, hg with
  | [], _, hp, ht, hg =>
    refine ⟨.leaf n, by simp [E.flat, flL], rfl, ?_⟩
    exact ⟨by simpa [bdL] using ht.1.symm, by simpa [bdL] using ht.2.1.symm, by simpa [bdL] using ht.2.2.symm, hp, hf⟩
  | [a], _, hp, ht, hg =>
    have hp1 : prZ n.op = 1 := hp
    obtain ⟨z1, z2, z3, z4, z5⟩ := hz (h30 (by omega)) (by omega)
    refine ⟨.un n.op a, ?_, by simp [E.size, szL], hp1, hg a (by simp)⟩
    obtain ⟨op, x1, x2, x3, k, back, co, x, y⟩ := n
    simp [bdL] at ht
    simp only at z1 z2 z3 z4 z5
    obtain ⟨t1, t2, t3⟩ := ht
    subst z1 z2 z3 z4 z5 t2 t3
    simp [E.flat, flL, ← t1]
  | [a, b], _, hp, ht, hg =>
    have hp1 : prZ n.op = 2 := hp
    obtain ⟨z1, z2, z3, z4, z5⟩ := hz (h30 (by omega)) (by omega)
    refine ⟨.bin n.op a b, ?_, by simp [E.size, szL], hp1, hg a (by simp), hg b (by simp)⟩
    obtain ⟨op, x1, x2, x3, k, back, co, x, y⟩ := n
    simp [bdL] at ht
    simp only at z1 z2 z3 z4 z5
    obtain ⟨t1, t2, t3⟩ := ht
    subst z1 z2 z3 z4 z5 t3
    simp [E.flat, flL, ← t1, ← t2]
  | [a, b, c], _, hp, ht, hg =>
    have hp1 : prZ n.op = 3 := hp
    obtain ⟨z1, z2, z3, z4, z5⟩ := hz (h30 (by omega)) (by omega)
    refine ⟨.tri n.op a b c, ?_, by simp [E.size, szL]; omega, hp1, hg a (by simp), hg b (by simp), hg c (by simp)⟩
    obtain ⟨op, x1, x2, x3, k, back, co, x, y⟩ := n
    simp [bdL] at ht
    simp only at z1 z2 z3 z4 z5
    obtain ⟨t1, t2, t3⟩ := ht
    subst z1 z2 z3 z4 z5
    simp [E.flat, flL, ← t1, ← t2, ← t3]

theorem inv_step {BS : List Int} {P : List Nd} {L : List Int} {bd : Nat} {n : Nd} {t : List Int × Nat} (hI : Inv BS P L bd) (h : stepP BS P.length n (L, bd) = some t) : Inv BS (P ++ [n]) t.1 t.2 := by
  obtain ⟨es, st, hP, hL, hes, hbs, hle, hg1, hg2⟩ := hI
  obtain ⟨A, B, hAB, hp, h3, hf, ht, hl⟩ := step_some h
  rw [hL] at hAB
  obtain ⟨s1, s2, rfl, hA, hB⟩ := bdL_split hAB
  have hBl : B.length = s2.length := by rw [← hB, bdL_len]
  obtain ⟨e, he1, he2, he3⟩ := mk_expr (st := s2) (s := szL es + szL s1) (bd := bd) (n := n) (by rw [hp, hBl]) (by omega) hf (by rw [hB]; exact ht) (fun e he => hg2 e (by simp [he]))
  have hPl : P.length = szL es + szL s1 + szL s2 := by rw [hP, List.length_append, flL_len, flL_len, szL_app]; omega
  have hP2 : P ++ [n] = flL es 0 ++ flL (s1 ++ [e]) (szL es) := by
    rw [hP, flL_app, flL_app]
    simp only [flL, List.append_nil, he1, List.append_assoc]
  have hi : ((P.length : Nat) : Int) = ((szL es + szL s1 + e.size : Nat) : Int) - 1 := by rw [hPl, he2]; omega
  unfold lastP at hl
  split at hl
  · rename_i hc
    split at hl
    · rename_i hA0
      cases hl
      have hs1 : s1 = [] := List.length_eq_zero_iff.1 (by rw [← bdL_len s1 (szL es), hA]; exact hA0)
      subst hs1
      refine ⟨es ++ [e], [], ?_, rfl, by simp [hes], ?_, hc.1, ?_, by simp⟩
      · rw [hP2]
        simp [flL_app, flL]
      · rw [bdL_app, hbs, List.take_succ_eq_append_getElem hc.1]
        have hg : BS[bd] = BS.getD bd 0 := by rw [List.getD_eq_getElem?_getD, List.getElem?_eq_getElem hc.1]; rfl
        rw [hg, hc.2, hi]
        simp [bdL, szL]
      · intro j e' hj
        by_cases hjl : j < es.length
        · rw [List.getElem?_append_left hjl] at hj; exact hg1 j e' hj
        · rw [List.getElem?_append_right (by omega)] at hj
          have hj0 : j - es.length = 0 := by
            cases hh : j - es.length with
            | zero => rfl
            | succ m => rw [hh] at hj; simp at hj
          rw [hj0] at hj
          cases hj
          rw [show j = bd by omega]
          exact he3
    · cases hl
  · cases hl
    refine ⟨es, s1 ++ [e], hP2, ?_, hes, hbs, hle, hg1, ?_⟩
    · rw [bdL_app, hA, hi]
      rfl
    · intro e' he'
      rcases List.mem_append.1 he' with h | h
      · exact hg2 e' (by simp [h])
      · simp at h; subst h; exact he3

theorem inv_all {BS : List Int} : ∀ (N P : List Nd) (L : List Int) (bd : Nat) (t : List Int × Nat), Inv BS P L bd → mach BS P.length N (L, bd) = some t → Inv BS (P ++ N) t.1 t.2
  | [], P, L, bd, t, hI, h => by cases h; rw [List.append_nil]; exact hI
  | n :: N, P, L, bd, t, hI, h => by
    simp only [mach] at h
    cases hs : stepP BS P.length n (L, bd) with
    | none => rw [hs] at h; cases h
    | some u =>
      rw [hs] at h
      have h1 := inv_step hI hs
      have := inv_all N (P ++ [n]) u.1 u.2 t h1 (by rw [List.length_append]; exact h)
      rw [List.append_assoc] at this
      exact this

theorem ord_good {BS : List Int} {NS : List Nd} : ordP BS NS = true ↔ Good BS NS := by
  constructor
  · intro h
    unfold ordP at h
    split at h
    · rename_i t ht
      simp only [Bool.and_eq_true, beq_iff_eq] at h
      have hI := inv_all NS [] [] 0 t ⟨[], [], rfl, rfl, rfl, rfl, Nat.zero_le _, by intro j e h; simp at h, by simp⟩ ht
      obtain ⟨es, st, hP, hL, hes, hbs, hle, hg1, hg2⟩ := hI
      have hst : st.length = 1 := by rw [← bdL_len st (szL es), ← hL]; exact h.2
      match st, hst with
      | [ex], _ =>
        refine ⟨es, ex, by simpa [flL] using hP, ?_, hg1, ?_⟩
        · rw [hbs, List.take_of_length_le (by omega)]
        · rw [hes]; exact hg2 ex (by simp)
    · cases h
  · rintro ⟨es, ex, rfl, rfl, h1, h2⟩
    have hm := mach_L (BS := bdL es 0) es ex 0 0 (Nat.zero_le _) rfl (by intro j e h; rw [Nat.zero_add]; exact h1 j e h) (by rw [Nat.zero_add]; exact h2)
    rw [Nat.zero_add] at hm
    unfold ordP
    rw [hm]
    simp

end Go.Proofs.YtodgjjkpbcadoaaDoor
