/-
  arith.exact and arith.Value; a call over numbers written out.
-/
import Derived.Test.YtlhbgkaknfhlnaaSpVal
namespace Go.Proofs.Ytlhbgkaknfhlnaa.Spn
open Go.RowKit Go.IntWalk
set_option linter.unusedVariables false

theorem exact_1 (op k s x : Int) (b off cap : Nat) (w : World) (hc : 1 ≤ cap) (ho : ar op = 1) (hk : cons op k s = true) (hx : -2147483648 ≤ x ∧ x ≤ 2147483647)
    (c0 : w.cell? ⟨b, off, none⟩ = some (.int .i64 x)) :
    Calls Try.prog 38 #[.int .i64 op, .int .i64 k, .int .i64 s, .slice (some ⟨b, off, none⟩) 1 cap] w fun e w' => e = .returned (.tuple #[.int .i64 (ex op k s x 0 0).1, .int .i64 (ex op k s x 0 0).2]) ∧ Below w.heap.size w w' := by
  have h2 := fun w => ofOne_any op k s x 0 0 w ho hk hx
  clear ho hk
  go_enter Try.func38, Try.ntmps38
  go_wp2_with (go_at_call 45; refine (h2 _).mono ?_; rintro e w' ⟨rfl, hb⟩)
  go_ret2
  exact ⟨rfl, hb⟩

theorem exact_2 (op k s x y : Int) (b off cap : Nat) (w : World) (hc : 2 ≤ cap) (ho : ar op = 2) (hx : -2147483648 ≤ x ∧ x ≤ 2147483647) (hy : -2147483648 ≤ y ∧ y ≤ 2147483647)
    (c0 : w.cell? ⟨b, off, none⟩ = some (.int .i64 x)) (c1 : w.cell? ⟨b, off + 1, none⟩ = some (.int .i64 y)) :
    Calls Try.prog 38 #[.int .i64 op, .int .i64 k, .int .i64 s, .slice (some ⟨b, off, none⟩) 2 cap] w fun e w' => e = .returned (.tuple #[.int .i64 (ex op k s x y 0).1, .int .i64 (ex op k s x y 0).2]) ∧ Below w.heap.size w w' := by
  have h2 := fun w => ofTwo_any op x y w (two_cases ho) hx hy
  rw [← ex_two op k s x y 0 (two_cases ho)] at h2
  clear ho
  go_enter Try.func38, Try.ntmps38
  go_wp2
  go_quiet ((go_at_call 46; exact Calls.quiet_of_same (h2 _)))
  go_wp2
  go_ret2
  exact ⟨rfl, bdrew (Below.refl _ _) _⟩

theorem ex_three (op k s x y z : Int) (ho : inB op 26 28 = true) : (ex op k s x y z).2 = 0 := by
  have h := inB_iff.1 ho
  rcases (show op = 26 ∨ op = 27 ∨ op = 28 by omega) with rfl | rfl | rfl <;> rfl

theorem exact_3 (op k s x y z : Int) (b off cap : Nat) (w : World) (hc : 3 ≤ cap) (ho : ar op = 3)
    (c0 : w.cell? ⟨b, off, none⟩ = some (.int .i64 x)) (c1 : w.cell? ⟨b, off + 1, none⟩ = some (.int .i64 y)) (c2 : w.cell? ⟨b, off + 2, none⟩ = some (.int .i64 z)) :
    Calls Try.prog 38 #[.int .i64 op, .int .i64 k, .int .i64 s, .slice (some ⟨b, off, none⟩) 3 cap] w fun e w' => e = .returned (.tuple #[.int .i64 (ex op k s x y z).1, .int .i64 (ex op k s x y z).2]) ∧ Below w.heap.size w w' := by
  have h2 := fun w => ofThree_any op k s x y z w (three_cases ho)
  rw [ex_three op k s x y z (three_cases ho)]
  clear ho
  go_enter Try.func38, Try.ntmps38
  go_wp2
  go_quiet ((go_at_call 47; exact Calls.quiet_of_same (h2 _)))
  go_wp2
  go_ret2
  exact ⟨rfl, bdrew (Below.refl _ _) _⟩

theorem exact_any (op k s : Int) (a : Option Addr) (n cap : Nat) (xs : List Int) (w : World) (h : Ints w a n cap xs) (hm : mayB op k s xs = true) :
    Calls Try.prog 38 #[.int .i64 op, .int .i64 k, .int .i64 s, .slice a n cap] w fun e w' =>
      e = .returned (.tuple #[.int .i64 (ex op k s (xs.getD 0 0) (xs.getD 1 0) (xs.getD 2 0)).1, .int .i64 (ex op k s (xs.getD 0 0) (xs.getD 1 0) (xs.getD 2 0)).2]) ∧ Below w.heap.size w w' := by
  simp only [mayB, Bool.and_eq_true, decide_eq_true_eq, List.all_eq_true] at hm
  obtain ⟨⟨⟨m1, m2⟩, m3⟩, m4⟩ := hm
  have hl := h.len
  have h3 := ar_le op
  have hle := h.le
  obtain ⟨b, off, rfl, -, hc⟩ := h.at (by omega)
  have hw : ∀ x ∈ xs, -2147483648 ≤ x ∧ x ≤ 2147483647 := fun x hx => wd_iff.1 (m4 x hx)
  match xs, hl, m2, hc, hw with
  | [x], hl, m2, hc, hw =>
    subst hl
    exact exact_1 op k s x b off cap w hle (by simpa using m2.symm) m3 (hw x (by simp)) (hc 0 (by simp))
  | [x, y], hl, m2, hc, hw =>
    subst hl
    exact exact_2 op k s x y b off cap w hle (by simpa using m2.symm) (hw x (by simp)) (hw y (by simp)) (hc 0 (by simp)) (hc 1 (by simp))
  | [x, y, z], hl, m2, hc, hw =>
    subst hl
    exact exact_3 op k s x y z b off cap w hle (by simpa using m2.symm) (hc 0 (by simp)) (hc 1 (by simp)) (hc 2 (by simp))
  | [], hl, m2, hc, hw => simp at m2; omega
  | _ :: _ :: _ :: _ :: _, hl, m2, hc, hw => simp at m2; omega

/-- What arith.Value answers. -/
def valZ (op k s : Int) (xs : List Int) : Int × Int :=
  if mayB op k s xs = true then
    (if (ex op k s (xs.getD 0 0) (xs.getD 1 0) (xs.getD 2 0)).2 = 0 then
      (if wd (ex op k s (xs.getD 0 0) (xs.getD 1 0) (xs.getD 2 0)).1 = true then ((ex op k s (xs.getD 0 0) (xs.getD 1 0) (xs.getD 2 0)).1, 0) else (0, 13))
    else (0, (ex op k s (xs.getD 0 0) (xs.getD 1 0) (xs.getD 2 0)).2))
  else (0, 1)

theorem value_any (op k s : Int) (a : Option Addr) (n cap : Nat) (xs : List Int) (w : World) (h : Ints w a n cap xs) :
    Calls Try.prog 31 #[.int .i64 op, .int .i64 k, .int .i64 s, .slice a n cap] w fun e w' => e = .returned (.tuple #[.int .i64 (valZ op k s xs).1, .int .i64 (valZ op k s xs).2]) ∧ Below w.heap.size w w' := by
  have H := hide h
  clear h
  cases hm : mayB op k s xs
  · rw [show valZ op k s xs = (0, 1) by simp [valZ, hm]]
    go_enter Try.func31, Try.ntmps31
    go_wp2_with (go_at_call 37; refine (may_any _ _ _ _ _ _ _ _ H.out).mono ?_; rintro e w' ⟨rfl, rfl⟩)
    go_ret2
    exact ⟨rfl, Below.refl _ _⟩
  · have H2 := hide (exact_any op k s a n cap xs w H.out hm)
    unfold valZ
    rw [if_pos hm]
    generalize ex op k s (xs.getD 0 0) (xs.getD 1 0) (xs.getD 2 0) = E at *
    obtain ⟨x, e⟩ := E
    by_cases he : e = 0
    · subst he
      rw [if_pos rfl]
      cases hx : wd x
      · rw [if_neg (by simp)]
        go_enter Try.func31, Try.ntmps31
        go_wp2_with (first | (go_at_call 37; refine (may_any _ _ _ _ _ _ _ _ H.out).mono ?_; rintro e w' ⟨rfl, rfl⟩) | (go_at_call 38; refine H2.out.mono ?_; rintro e w2 ⟨rfl, hb⟩) | (go_at_call 10; refine (word_any _ _).mono ?_; rintro e w' ⟨rfl, rfl⟩))
        go_ret2
        exact ⟨rfl, hb⟩
      · rw [if_pos (by simp)]
        go_enter Try.func31, Try.ntmps31
        go_wp2_with (first | (go_at_call 37; refine (may_any _ _ _ _ _ _ _ _ H.out).mono ?_; rintro e w' ⟨rfl, rfl⟩) | (go_at_call 38; refine H2.out.mono ?_; rintro e w2 ⟨rfl, hb⟩) | (go_at_call 10; refine (word_any _ _).mono ?_; rintro e w' ⟨rfl, rfl⟩))
        go_ret2
        exact ⟨rfl, hb⟩
    · rw [if_neg he]
      have he' : (e != 0) = true := by simp [he]
      clear he
      go_enter Try.func31, Try.ntmps31
      go_wp2_with (first | (go_at_call 37; refine (may_any _ _ _ _ _ _ _ _ H.out).mono ?_; rintro e w' ⟨rfl, rfl⟩) | (go_at_call 38; refine H2.out.mono ?_; rintro e w2 ⟨rfl, hb⟩) | (go_at_call 10; refine (word_any _ _).mono ?_; rintro e w' ⟨rfl, rfl⟩))
      go_ret2
      exact ⟨rfl, hb⟩

theorem lit1 (w : World) (t : TypeId) (x : Int) : Ints (w.alloc (.cells #[.int .i64 x] t)) (some ⟨w.heap.size, 0, none⟩) 1 1 [x] := by
  refine ⟨rfl, Nat.le_refl _, by decide, (fun h => by cases h), .inr ⟨_, _, rfl, fun i hi => ?_⟩⟩
  obtain rfl : i = 0 := by omega
  simp
theorem lit2 (w : World) (t : TypeId) (x y : Int) : Ints (w.alloc (.cells #[.int .i64 x, .int .i64 y] t)) (some ⟨w.heap.size, 0, none⟩) 2 2 [x, y] := by
  refine ⟨rfl, Nat.le_refl _, by decide, (fun h => by cases h), .inr ⟨_, _, rfl, fun i hi => ?_⟩⟩
  rcases (show i = 0 ∨ i = 1 by omega) with rfl | rfl <;> simp
theorem lit3 (w : World) (t : TypeId) (x y z : Int) : Ints (w.alloc (.cells #[.int .i64 x, .int .i64 y, .int .i64 z] t)) (some ⟨w.heap.size, 0, none⟩) 3 3 [x, y, z] := by
  refine ⟨rfl, Nat.le_refl _, by decide, (fun h => by cases h), .inr ⟨_, _, rfl, fun i hi => ?_⟩⟩
  rcases (show i = 0 ∨ i = 1 ∨ i = 2 by omega) with rfl | rfl | rfl <;> simp

end Go.Proofs.Ytlhbgkaknfhlnaa.Spn
