/-
  Both ends of a span are answers at ends of the arguments: on whole numbers.
-/
import Derived.Test.YtbandppkhknaoaaHoldR
namespace Go.Proofs.Ytbandppkhknaoaa
open Go.RowKit Go.IntWalk
set_option linter.unusedVariables false

/-- Ends of the first j spans, by the digits of m. -/
def endP (L : List (Int × Int)) (m j : Nat) : List Int := (List.range j).map fun i => if m / 2 ^ i % 2 = 1 then (L.getD i (0, 0)).2 else (L.getD i (0, 0)).1
theorem endP_succ (L : List (Int × Int)) (m j : Nat) : endP L m (j + 1) = endP L m j ++ [if m / 2 ^ j % 2 = 1 then (L.getD j (0, 0)).2 else (L.getD j (0, 0)).1] := by simp [endP, List.range_succ]
theorem endP_in {L : List (Int × Int)} (m : Nat) (h : ∀ p ∈ L, whB p.1 p.2 = true) : Ins (endP L m L.length) L := by
  refine ins_of_get (by simp [endP]) fun i hi => ?_
  have e : (endP L m L.length).getD i 0 = if m / 2 ^ i % 2 = 1 then (L.getD i (0, 0)).2 else (L.getD i (0, 0)).1 := by simp [endP, List.getD, hi]
  rw [e]
  have hw : whB (L.getD i (0, 0)).1 (L.getD i (0, 0)).2 = true := h _ (by simp [List.getD, hi])
  have := whB_iff.1 hw
  split <;> omega

def tightB (op : Int) : Prop := op = 5 ∨ op = 7 ∨ (8 ≤ op ∧ op ≤ 11) ∨ op = 13 ∨ op = 14 ∨ (24 ≤ op ∧ op ≤ 27) ∨ op = 29 ∨ op = 30 ∨ op = 32 ∨ op = 33

/-- The value of a corner, where it is an answer. -/
def vE (op k s : Int) (L : List (Int × Int)) (m : Nat) : Int := (valZ op k s (endP L m L.length)).1

theorem corn_end {f : Int → Int → Int × Int} {a b c d lo hi : Int} (h : cornZ f a b c d = ((lo, hi), 0)) (hb : ∀ x y, (f x y).1 ≤ 9223372036854775807 ∧ -9223372036854775808 ≤ (f x y).1) :
    (lo = (f a c).1 ∨ lo = (f a d).1 ∨ lo = (f b c).1 ∨ lo = (f b d).1) ∧ (hi = (f a c).1 ∨ hi = (f a d).1 ∨ hi = (f b c).1 ∨ hi = (f b d).1) := by
  obtain ⟨-, -, -, -, h1, h2⟩ := cornZ_inv h
  have b1 := hb a c
  have b2 := hb a d
  have b3 := hb b c
  have b4 := hb b d
  omega

theorem val_small (op k s : Int) (xs : List Int) : -2147483648 ≤ (valZ op k s xs).1 ∧ (valZ op k s xs).1 ≤ 2147483647 := by
  unfold valZ
  split
  · split
    · split
      · rename_i h; exact wd_iff.1 h
      · simp
    · simp
  · simp

theorem ex_of_val {op k s v : Int} {xs : List Int} (hm : mayB op k s xs = true) (h : valZ op k s xs = (v, 0)) : v = (ex op k s (xs.getD 0 0) (xs.getD 1 0) (xs.getD 2 0)).1 := by
  rw [val_fnE hm] at h
  have := fnE_ok (E := ex op k s (xs.getD 0 0) (xs.getD 1 0) (xs.getD 2 0)) (by rw [h])
  rw [h] at this
  exact this.2.2

theorem ends_tight {op k s lo hi : Int} {L : List (Int × Int)} (ht : tightB op) (h : ofZ op k s L = ((lo, hi), 0)) :
    (∃ m, m < 8 ∧ vE op k s L m = lo) ∧ (∃ m, m < 8 ∧ vE op k s L m = hi) := by
  obtain ⟨hm, hr, hw⟩ := ofZ_inv h
  obtain ⟨m2, m1, m3, m4, m5⟩ := smay_inv hm
  have hv : ∀ m, ∃ v, valZ op k s (endP L m L.length) = (v, 0) ∧ mayB op k s (endP L m L.length) = true := fun m => by
    obtain ⟨v, hv, -, -⟩ := holds_all h (endP_in m m4)
    exact ⟨v, hv, (holds_ex hm hr (endP_in m m4)).1⟩
  have hx : ∀ m, vE op k s L m = (ex op k s ((endP L m L.length).getD 0 0) ((endP L m L.length).getD 1 0) ((endP L m L.length).getD 2 0)).1 := fun m => by
    obtain ⟨v, h1, h2⟩ := hv m
    unfold vE
    rw [h1]
    exact ex_of_val h2 h1
  match L, m2, m4, hr, hx with
  | [(a, b)], m2, m4, hr, hx =>
    have q0 : endP [(a, b)] 0 [(a, b)].length = [a] := by simp [endP, List.range_succ]
    have e0 : vE op k s [(a, b)] 0 = (ex op k s a 0 0).1 := by rw [hx 0, q0]; rfl
    have q1 : endP [(a, b)] 1 [(a, b)].length = [b] := by simp [endP, List.range_succ]
    have e1 : vE op k s [(a, b)] 1 = (ex op k s b 0 0).1 := by rw [hx 1, q1]; rfl
    have v0 : vE op k s [(a, b)] 0 = (valZ op k s [a]).1 := by unfold vE; rw [q0]
    have v1 : vE op k s [(a, b)] 1 = (valZ op k s [b]).1 := by unfold vE; rw [q1]
    have ho := one_cases (op := op) (by simpa using m2.symm)
    by_cases he : op = 7 ∨ op = 29 ∨ op = 30 ∨ op = 33
    · rw [rk_ends (by omega)] at hr
      obtain ⟨-, -, h1, h2⟩ := endsZ_inv hr
      exact ⟨⟨0, by omega, by rw [v0, h1]; rfl⟩, ⟨1, by omega, by rw [v1, h2]; rfl⟩⟩
    by_cases h5 : op = 5
    · subst h5
      rw [rk_one (.inl rfl)] at hr
      have hr' : ((-b, -a), (0 : Int)) = ((lo, hi), 0) := hr
      simp only [Prod.mk.injEq, and_true] at hr'
      exact ⟨⟨1, by omega, by rw [e1]; show -b = lo; omega⟩, ⟨0, by omega, by rw [e0]; show -a = hi; omega⟩⟩
    have h32 : op = 32 := by unfold tightB at ht; omega
    subst h32
    rw [rk_mulk rfl] at hr
    have w1 : whB a b = true := m4 (a, b) (by simp)
    have g := whB_iff.1 w1
    have hk : wd k = true := m3
    have hk' := wd_iff.1 hk
    obtain ⟨p1, -, p3, -, -, -⟩ := cornZ_inv hr
    have hc := corn_end hr (fun x y => by have := val_small 10 0 0 [x, y]; omega)
    simp only [val2 (op := 10) rfl rfl (show W32 a by omega) (show W32 k by omega), val2 (op := 10) rfl rfl (show W32 b by omega) (show W32 k by omega)] at hc p1 p3
    have q1 := (fnE_ok p1).2.2
    have q3 := (fnE_ok p3).2.2
    rw [q1, q3] at hc
    have f0 : (ex 32 k s a 0 0).1 = (ex 10 0 0 a k 0).1 := rfl
    have f1 : (ex 32 k s b 0 0).1 = (ex 10 0 0 b k 0).1 := rfl
    rw [f0] at e0
    rw [f1] at e1
    refine ⟨?_, ?_⟩
    · rcases hc.1 with e | e | e | e
      · exact ⟨0, by omega, by rw [e0, e]⟩
      · exact ⟨0, by omega, by rw [e0, e]⟩
      · exact ⟨1, by omega, by rw [e1, e]⟩
      · exact ⟨1, by omega, by rw [e1, e]⟩
    · rcases hc.2 with e | e | e | e
      · exact ⟨0, by omega, by rw [e0, e]⟩
      · exact ⟨0, by omega, by rw [e0, e]⟩
      · exact ⟨1, by omega, by rw [e1, e]⟩
      · exact ⟨1, by omega, by rw [e1, e]⟩
  | [(a, b), (c, d)], m2, m4, hr, hx =>
    have q0 : endP [(a, b), (c, d)] 0 [(a, b), (c, d)].length = [a, c] := by simp [endP, List.range_succ]
    have e0 : vE op k s [(a, b), (c, d)] 0 = (ex op k s a c 0).1 := by rw [hx 0, q0]; rfl
    have q1 : endP [(a, b), (c, d)] 1 [(a, b), (c, d)].length = [b, c] := by simp [endP, List.range_succ]
    have e1 : vE op k s [(a, b), (c, d)] 1 = (ex op k s b c 0).1 := by rw [hx 1, q1]; rfl
    have q2 : endP [(a, b), (c, d)] 2 [(a, b), (c, d)].length = [a, d] := by simp [endP, List.range_succ]
    have e2 : vE op k s [(a, b), (c, d)] 2 = (ex op k s a d 0).1 := by rw [hx 2, q2]; rfl
    have q3 : endP [(a, b), (c, d)] 3 [(a, b), (c, d)].length = [b, d] := by simp [endP, List.range_succ]
    have e3 : vE op k s [(a, b), (c, d)] 3 = (ex op k s b d 0).1 := by rw [hx 3, q3]; rfl
    have v0 : vE op k s [(a, b), (c, d)] 0 = (valZ op k s [a, c]).1 := by unfold vE; rw [q0]
    have v1 : vE op k s [(a, b), (c, d)] 1 = (valZ op k s [b, c]).1 := by unfold vE; rw [q1]
    have v2 : vE op k s [(a, b), (c, d)] 2 = (valZ op k s [a, d]).1 := by unfold vE; rw [q2]
    have v3 : vE op k s [(a, b), (c, d)] 3 = (valZ op k s [b, d]).1 := by unfold vE; rw [q3]
    have har : ar op = 2 := by simpa using m2.symm
    by_cases he : op = 24 ∨ op = 25
    · rw [rk_ends (by omega)] at hr
      obtain ⟨-, -, h1, h2⟩ := endsZ_inv hr
      exact ⟨⟨0, by omega, by rw [v0, h1]; rfl⟩, ⟨3, by omega, by rw [v3, h2]; rfl⟩⟩
    have corner : ∀ {lo hi : Int}, cornZ (fun u v => valZ op k s [u, v]) a b c d = ((lo, hi), 0) → (∃ m, m < 8 ∧ vE op k s [(a, b), (c, d)] m = lo) ∧ (∃ m, m < 8 ∧ vE op k s [(a, b), (c, d)] m = hi) := by
      intro lo hi hc
      have hh := corn_end hc (fun x y => by have := val_small op k s [x, y]; omega)
      simp only [← v0, ← v1, ← v2, ← v3] at hh
      refine ⟨?_, ?_⟩
      · rcases hh.1 with e | e | e | e
        · exact ⟨0, by omega, e.symm⟩
        · exact ⟨2, by omega, e.symm⟩
        · exact ⟨1, by omega, e.symm⟩
        · exact ⟨3, by omega, e.symm⟩
      · rcases hh.2 with e | e | e | e
        · exact ⟨0, by omega, e.symm⟩
        · exact ⟨2, by omega, e.symm⟩
        · exact ⟨1, by omega, e.symm⟩
        · exact ⟨3, by omega, e.symm⟩
    by_cases hcn : op = 10 ∨ op = 13 ∨ op = 14
    · rw [rk_corn (by omega)] at hr
      exact corner hr
    by_cases h11 : op = 11
    · rw [rk_div (.inl h11)] at hr
      unfold divZ at hr
      cases h0 : hasB c d 0
      · rw [h0] at hr
        simp only [Bool.false_eq_true, if_false, h11, if_true] at hr
        rw [← h11] at hr
        exact corner hr
      · rw [h0] at hr
        simp at hr
    have h89 : op = 8 ∨ op = 9 := by
      have := inB_iff.1 (two_cases har)
      unfold tightB at ht
      omega
    rcases h89 with rfl | rfl
    · rw [rk_two (by simp)] at hr
      have hr' : ((a + c, b + d), (0 : Int)) = ((lo, hi), 0) := hr
      simp only [Prod.mk.injEq, and_true] at hr'
      exact ⟨⟨0, by omega, by rw [e0]; show a + c = lo; omega⟩, ⟨3, by omega, by rw [e3]; show b + d = hi; omega⟩⟩
    · rw [rk_two (by simp)] at hr
      have hr' : ((a - d, b - c), (0 : Int)) = ((lo, hi), 0) := hr
      simp only [Prod.mk.injEq, and_true] at hr'
      exact ⟨⟨2, by omega, by rw [e2]; show a - d = lo; omega⟩, ⟨1, by omega, by rw [e1]; show b - c = hi; omega⟩⟩
  | [(a, b), (c, d), (e, f)], m2, m4, hr, hx =>
    have q0 : endP [(a, b), (c, d), (e, f)] 0 [(a, b), (c, d), (e, f)].length = [a, c, e] := by simp [endP, List.range_succ]
    have v0 : vE op k s [(a, b), (c, d), (e, f)] 0 = (valZ op k s [a, c, e]).1 := by unfold vE; rw [q0]
    have q7 : endP [(a, b), (c, d), (e, f)] 7 [(a, b), (c, d), (e, f)].length = [b, d, f] := by simp [endP, List.range_succ]
    have v7 : vE op k s [(a, b), (c, d), (e, f)] 7 = (valZ op k s [b, d, f]).1 := by unfold vE; rw [q7]
    have h3' := inB_iff.1 (three_cases (op := op) (by simpa using m2.symm))
    rw [rk_ends (by unfold tightB at ht; omega)] at hr
    obtain ⟨-, -, h1, h2⟩ := endsZ_inv hr
    exact ⟨⟨0, by omega, by rw [v0, h1]; rfl⟩, ⟨7, by omega, by rw [v7, h2]; rfl⟩⟩
  | [], m2, m4, hr, hx => simp at m2; omega
  | _ :: _ :: _ :: _ :: _, m2, m4, hr, hx => simp at m5

end Go.Proofs.Ytbandppkhknaoaa
