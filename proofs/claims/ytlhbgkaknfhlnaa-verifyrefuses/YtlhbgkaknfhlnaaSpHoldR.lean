/-
  The stage's theorem on whole numbers, whatever the operator; and what the laws' walks share.
-/
import Derived.Test.YtlhbgkaknfhlnaaSpHoldQ
import Derived.Test.YtlhbgkaknfhlnaaSpOfS
namespace Go.Proofs.Ytlhbgkaknfhlnaa.Spn
open Go.RowKit Go.IntWalk Go.Sort
set_option linter.unusedVariables false

/-- Numbers of the spans, one of each. -/
def Ins : List Int → List (Int × Int) → Prop
  | [], [] => True
  | x :: xs, p :: L => (p.1 ≤ x ∧ x ≤ p.2) ∧ Ins xs L
  | _, _ => False

theorem smay_inv {op k s : Int} {L : List (Int × Int)} (h : smayB op k s L = true) : (L.length : Int) = ar op ∧ 1 ≤ ar op ∧ cons op k s = true ∧ (∀ p ∈ L, whB p.1 p.2 = true) ∧ L.length ≤ 3 := by
  simp only [smayB, Bool.and_eq_true, decide_eq_true_eq, List.all_eq_true] at h
  obtain ⟨⟨⟨m1, m2⟩, m3⟩, m4⟩ := h
  have h3 := ar_le op
  exact ⟨m2, m1, m3, m4, by omega⟩

theorem holds_ex {op k s lo hi : Int} {L : List (Int × Int)} {xs : List Int} (hm : smayB op k s L = true) (hr : reckZ op k s L = ((lo, hi), 0)) (hi' : Ins xs L) :
    mayB op k s xs = true ∧ (ex op k s (xs.getD 0 0) (xs.getD 1 0) (xs.getD 2 0)).2 = 0 ∧ lo ≤ (ex op k s (xs.getD 0 0) (xs.getD 1 0) (xs.getD 2 0)).1 ∧ (ex op k s (xs.getD 0 0) (xs.getD 1 0) (xs.getD 2 0)).1 ≤ hi := by
  obtain ⟨m2, m1, m3, m4, m5⟩ := smay_inv hm
  match L, xs, hi', m2, m4, hr with
  | [(a, b)], [x], hi', m2, m4, hr =>
    have w1 : whB a b = true := m4 (a, b) (by simp)
    obtain ⟨⟨h1, h2⟩, -⟩ := hi'
    have g := whB_iff.1 w1
    simp only at h1 h2
    exact ⟨may1 (by simpa using m2.symm) m3 (by omega), hold_1 (by simpa using m2.symm) m3 w1 hr h1 h2⟩
  | [(a, b), (c, d)], [x, y], hi', m2, m4, hr =>
    have w1 : whB a b = true := m4 (a, b) (by simp)
    have w2 : whB c d = true := m4 (c, d) (by simp)
    obtain ⟨⟨h1, h2⟩, ⟨h3, h4⟩, -⟩ := hi'
    have g := whB_iff.1 w1
    have g' := whB_iff.1 w2
    simp only at h1 h2 h3 h4
    exact ⟨may2 (by simpa using m2.symm) m3 (by omega) (by omega), hold_2 (by simpa using m2.symm) w1 w2 hr h1 h2 h3 h4⟩
  | [(a, b), (c, d), (e, f)], [x, y, z], hi', m2, m4, hr =>
    have w1 : whB a b = true := m4 (a, b) (by simp)
    have w2 : whB c d = true := m4 (c, d) (by simp)
    have w3 : whB e f = true := m4 (e, f) (by simp)
    obtain ⟨⟨h1, h2⟩, ⟨h3, h4⟩, ⟨h5, h6⟩, -⟩ := hi'
    have g := whB_iff.1 w1
    have g' := whB_iff.1 w2
    have g'' := whB_iff.1 w3
    simp only at h1 h2 h3 h4 h5 h6
    exact ⟨may3 (by simpa using m2.symm) m3 (by omega) (by omega) (by omega), hold_3 (by simpa using m2.symm) w1 w2 w3 hr h1 h2 h3 h4 h5 h6⟩
  | [], xs, hi', m2, m4, hr => simp at m2; omega
  | _ :: _ :: _ :: _ :: _, xs, hi', m2, m4, hr => simp at m5
  | [_], [], hi', _, _, _ => exact hi'.elim
  | [_], _ :: _ :: _, hi', _, _, _ => exact hi'.2.elim
  | [_, _], [], hi', _, _, _ => exact hi'.elim
  | [_, _], [_], hi', _, _, _ => exact hi'.2.elim
  | [_, _], _ :: _ :: _ :: _, hi', _, _, _ => exact hi'.2.2.elim
  | [_, _, _], [], hi', _, _, _ => exact hi'.elim
  | [_, _, _], [_], hi', _, _, _ => exact hi'.2.elim
  | [_, _, _], [_, _], hi', _, _, _ => exact hi'.2.2.elim
  | [_, _, _], _ :: _ :: _ :: _ :: _, hi', _, _, _ => exact hi'.2.2.2.elim

theorem holds_all {op k s lo hi : Int} {L : List (Int × Int)} {xs : List Int} (h : ofZ op k s L = ((lo, hi), 0)) (hi' : Ins xs L) :
    ∃ v, valZ op k s xs = (v, 0) ∧ lo ≤ v ∧ v ≤ hi := by
  obtain ⟨hm, hr, hw⟩ := ofZ_inv h
  obtain ⟨h1, h2, h3, h4⟩ := holds_ex hm hr hi'
  have g := whB_iff.1 hw
  refine ⟨_, ?_, h3, h4⟩
  rw [val_fnE h1]
  exact fnE_mk h2 (wd_iff.2 (by omega))

theorem ofZ_err {op k s : Int} {L : List (Int × Int)} {Z : Int × Int} {e : Int} (h : ofZ op k s L = (Z, e)) (he : e ≠ 0) : Z = (0, 0) := by
  unfold ofZ at h
  by_cases hm : smayB op k s L = true
  · rw [if_pos hm] at h
    unfold finZ at h
    split at h
    · simp only [Prod.mk.injEq] at h; exact h.1.symm
    · split at h
      · simp only [Prod.mk.injEq] at h; exact absurd h.2.symm he
      · simp only [Prod.mk.injEq] at h; exact h.1.symm
  · rw [if_neg hm] at h
    simp only [Prod.mk.injEq] at h; exact h.1.symm

/-- The points of the first j spans. -/
def pts (L : List (Int × Int)) (t : Nat → Int) (j : Nat) : List Int := (List.range j).map fun i => ptZ (L.getD i (0, 0)).1 (L.getD i (0, 0)).2 (t i)
theorem pts_succ (L : List (Int × Int)) (t : Nat → Int) (j : Nat) : pts L t (j + 1) = pts L t j ++ [ptZ (L.getD j (0, 0)).1 (L.getD j (0, 0)).2 (t j)] := by
  simp [pts, List.range_succ]
theorem pts_len (L : List (Int × Int)) (t : Nat → Int) (j : Nat) : (pts L t j).length = j := by simp [pts]
theorem ins_of_get : ∀ {L : List (Int × Int)} {xs : List Int}, xs.length = L.length → (∀ i, i < L.length → (L.getD i (0, 0)).1 ≤ xs.getD i 0 ∧ xs.getD i 0 ≤ (L.getD i (0, 0)).2) → Ins xs L
  | [], [], _, _ => trivial
  | [], _ :: _, h, _ => by simp at h
  | _ :: _, [], h, _ => by simp at h
  | p :: L, x :: xs, h, hg => ⟨by have := hg 0 (by simp); simpa using this, ins_of_get (by simpa using h) (fun i hi => by have := hg (i + 1) (by simp; omega); simpa using this)⟩
theorem pts_in {L : List (Int × Int)} {t : Nat → Int} (h : ∀ p ∈ L, whB p.1 p.2 = true) : Ins (pts L t L.length) L := by
  refine ins_of_get (pts_len _ _ _) fun i hi => ?_
  have e : (pts L t L.length).getD i 0 = ptZ (L.getD i (0, 0)).1 (L.getD i (0, 0)).2 (t i) := by simp [pts, List.getD, hi]
  rw [e]
  have hw : whB (L.getD i (0, 0)).1 (L.getD i (0, 0)).2 = true := h _ (by simp [List.getD, hi])
  exact ptZ_in (whB_iff.1 hw).1

/-- The block of a call. -/
abbrev callC (op k s : Int) (a : Option Addr) (n cap : Nat) : Array Value := #[.int .i64 op, .int .i64 k, .int .i64 s, .slice a n cap]
theorem facts4 {W : World} {b : Nat} {t : TypeId} {x y z u : Value} (h : HasC W b t #[x, y, z, u]) : W.cell? ⟨b, 0, none⟩ = some x ∧ W.cell? ⟨b, 1, none⟩ = some y ∧ W.cell? ⟨b, 2, none⟩ = some z ∧ W.cell? ⟨b, 3, none⟩ = some u :=
  ⟨h.cell 0 rfl, h.cell 1 rfl, h.cell 2 rfl, h.cell 3 rfl⟩

/-- One list: the second of two being nil. -/
abbrev En1 (w W : World) (v : Value) (n : Nat) (xs : List Int) : Prop := En w W v (.slice none 0 0) n 0 xs []
theorem En1.start (W : World) : En1 W W (.slice none 0 0) 0 [] := by
  refine ⟨⟨rfl, .inl ⟨rfl, rfl⟩⟩, ⟨rfl, .inl ⟨rfl, rfl⟩⟩, ?_, Below.refl _ _⟩
  intro g hg
  simp [Value.ownBlock] at hg
theorem En.later {w W W' : World} {v1 v2 : Value} {n1 n2 : Nat} {xs ys : List Int} (h : En w W v1 v2 n1 n2 xs ys) (hb : Below W.heap.size W W') : En w W' v1 v2 n1 n2 xs ys := by
  have hg : W.grownBy W' none := ⟨hb.os, hb.tape, hb.output, hb.size, fun k hk _ => hb.block k hk⟩
  refine ⟨h.a.kept hg ?_, h.b.kept hg ?_, h.ap, h.bel.trans (hb.mono h.bel.size)⟩
  · cases hv : v1.ownBlock with
    | none => exact .inl rfl
    | some q => exact .inr (by simp)
  · cases hv : v2.ownBlock with
    | none => exact .inl rfl
    | some q => exact .inr (by simp)

end Go.Proofs.Ytlhbgkaknfhlnaa.Spn
