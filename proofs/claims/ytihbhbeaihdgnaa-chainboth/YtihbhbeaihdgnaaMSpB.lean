/-
  arith.Value: what it answers, for every operator, every constants and every list of numbers; memory stays.
-/
import Derived.Test.YtihbhbeaihdgnaaMSpA
import Derived.LoopTactic
namespace Go.Proofs.Ytihbhbeaihdgnaa.Spn
open Go.RowKit Go.IntWalk
set_option linter.unusedVariables false

theorem one_cases {op : Int} (h : ar op = 1) : op = 5 ∨ op = 6 ∨ op = 7 ∨ op = 29 ∨ op = 30 ∨ op = 31 ∨ op = 32 ∨ op = 33 := by
  unfold ar at h
  split at h
  · omega
  · split at h
    · rename_i h2
      rw [inB_iff, inB_iff] at h2
      omega
    · split at h
      · omega
      · split at h <;> omega
theorem two_cases {op : Int} (h : ar op = 2) : inB op 8 25 = true := by
  unfold ar at h
  split at h
  · omega
  · split at h
    · omega
    · split at h
      · assumption
      · split at h <;> omega
theorem three_cases {op : Int} (h : ar op = 3) : inB op 26 28 = true := by
  unfold ar at h
  split at h
  · omega
  · split at h
    · omega
    · split at h
      · omega
      · split at h
        · assumption
        · omega
theorem ar_le (op : Int) : ar op ≤ 3 := by
  unfold ar
  split
  · omega
  · split
    · omega
    · split
      · omega
      · split <;> omega

theorem ofOne_any (op k s a b c : Int) (w : World) (ho : ar op = 1) (hc : cons op k s = true) (ha : -2147483648 ≤ a ∧ a ≤ 2147483647) :
    Calls Try.prog 64 #[.int .i64 op, .int .i64 k, .int .i64 s, .int .i64 a] w fun e w' => e = .returned (.tuple #[.int .i64 (ex op k s a b c).1, .int .i64 (ex op k s a b c).2]) ∧ Below w.heap.size w w' := by
  rcases one_cases ho with rfl | rfl | rfl | rfl | rfl | rfl | rfl | rfl <;> clear ho
  · clear hc
    go_enter Try.func64, Try.ntmps64
    go_wp2
    go_ret2
    exact ⟨rfl, Below.refl _ _⟩
  · clear hc
    go_enter Try.func64, Try.ntmps64
    go_wp2_with (go_at_call 76; refine (size_any _ _ ha).mono ?_; rintro e w' ⟨rfl, rfl⟩)
    go_ret2
    exact ⟨rfl, Below.refl _ _⟩
  · clear hc
    go_enter Try.func64, Try.ntmps64
    go_wp2_with (go_at_call 77; refine (compare_any _ _ _).mono ?_; rintro e w' ⟨rfl, rfl⟩)
    go_ret2
    exact ⟨rfl, Below.refl _ _⟩
  · have hk : inB k 0 31 = true := hc
    have hk' := inB_iff.1 hk
    have h2 := fun w => ofTwo_any 13 a k w rfl ha (by omega)
    rw [show ex 13 0 0 a k 0 = ex 29 k s a b c by simp [ex, hk]] at h2
    clear hc hk
    go_enter Try.func64, Try.ntmps64
    go_wp2_with (go_at_call 65; refine (h2 _).mono ?_; rintro e w' ⟨rfl, rfl⟩)
    go_ret2
    exact ⟨rfl, Below.refl _ _⟩
  · have hk : inB k 0 31 = true := hc
    have hk' := inB_iff.1 hk
    have h2 := fun w => ofTwo_any 14 a k w rfl ha (by omega)
    rw [show ex 14 0 0 a k 0 = ex 30 k s a b c by simp [ex, hk]] at h2
    clear hc hk
    go_enter Try.func64, Try.ntmps64
    go_wp2_with (go_at_call 65; refine (h2 _).mono ?_; rintro e w' ⟨rfl, rfl⟩)
    go_ret2
    exact ⟨rfl, Below.refl _ _⟩
  · have hk : inB k 0 2147483647 = true := hc
    have hk' := inB_iff.1 hk
    have h2 := fun w => ofTwo_any 15 a k w rfl ha (by omega)
    rw [show ex 15 0 0 a k 0 = ex 31 k s a b c from rfl] at h2
    clear hc hk
    go_enter Try.func64, Try.ntmps64
    go_wp2_with (go_at_call 65; refine (h2 _).mono ?_; rintro e w' ⟨rfl, rfl⟩)
    go_ret2
    exact ⟨rfl, Below.refl _ _⟩
  · have hk : wd k = true := hc
    have hk' := wd_iff.1 hk
    have h2 := fun w => ofTwo_any 10 a k w rfl ha (by omega)
    rw [show ex 10 0 0 a k 0 = ex 32 k s a b c from rfl] at h2
    clear hc hk
    go_enter Try.func64, Try.ntmps64
    go_wp2_with (go_at_call 65; refine (h2 _).mono ?_; rintro e w' ⟨rfl, rfl⟩)
    go_ret2
    exact ⟨rfl, Below.refl _ _⟩
  · have hk : (inB k 1 4611686018427387904 && inB s 0 62) = true := hc
    rw [Bool.and_eq_true, inB_iff, inB_iff] at hk
    have h2 := fun w => scaled_any k s a b c w hk.1 hk.2 ha
    clear hc hk
    go_enter Try.func64, Try.ntmps64
    go_wp2_with (go_at_call 78; refine (h2 _).mono ?_; rintro e w' ⟨rfl, hb⟩)
    go_ret2
    exact ⟨rfl, hb⟩

/-- The slice (a, n, cap) reads as the numbers xs. -/
structure Ints (w : World) (a : Option Addr) (n cap : Nat) (xs : List Int) : Prop where
  len : xs.length = n
  le : n ≤ cap
  max : cap ≤ maxLen
  nil : a = none → cap = 0
  cell : n = 0 ∨ ∃ b off, a = some ⟨b, off, none⟩ ∧ ∀ i, i < n → w.cell? ⟨b, off + i, none⟩ = some (.int .i64 (xs.getD i 0))

theorem Ints.at {w : World} {a : Option Addr} {n cap : Nat} {xs : List Int} (h : Ints w a n cap xs) (hn : n ≠ 0) :
    ∃ b off, a = some ⟨b, off, none⟩ ∧ b < w.heap.size ∧ ∀ i, i < n → w.cell? ⟨b, off + i, none⟩ = some (.int .i64 (xs.getD i 0)) := by
  rcases h.cell with h0 | ⟨b, off, ha, hc⟩
  · exact absurd h0 hn
  · exact ⟨b, off, ha, World.block_lt_of_cell? w _ (hc 0 (by omega)), hc⟩

theorem Ints.of_cells {w w' : World} {a : Option Addr} {n cap : Nat} {xs : List Int} (h : Ints w a n cap xs)
    (hc : ∀ b off, a = some ⟨b, off, none⟩ → n ≠ 0 → ∀ i, i < n → w'.cell? ⟨b, off + i, none⟩ = w.cell? ⟨b, off + i, none⟩) : Ints w' a n cap xs := by
  refine ⟨h.len, h.le, h.max, h.nil, ?_⟩
  by_cases hn : n = 0
  · exact .inl hn
  · obtain ⟨b, off, ha, _, hcell⟩ := h.at hn
    exact .inr ⟨b, off, ha, fun i hi => (hc b off ha hn i hi).trans (hcell i hi)⟩

theorem Ints.later {w w' : World} {a : Option Addr} {n cap : Nat} {xs : List Int} (h : Ints w a n cap xs) (hb : Below w.heap.size w w') : Ints w' a n cap xs := by
  refine h.of_cells fun b off ha hn i hi => ?_
  obtain ⟨b', off', ha', hlt, _⟩ := h.at hn
  rw [ha] at ha'
  cases ha'
  exact hb.cell (p := ⟨b, off + i, none⟩) hlt

def mayB (op k s : Int) (xs : List Int) : Bool := decide (1 ≤ ar op) && decide ((xs.length : Int) = ar op) && cons op k s && xs.all wd

theorem all_take_succ {xs : List Int} {k : Nat} (hk : k < xs.length) (h : (xs.take k).all wd = true) (e : wd (xs.getD k 0) = true) : (xs.take (k + 1)).all wd = true := by
  rw [List.take_succ_eq_append_getElem hk, List.all_append, h]
  simp [List.getD, hk] at e
  simp [e]

set_option maxRecDepth 100000 in
set_option maxHeartbeats 1000000 in
theorem may_any (op k s : Int) (a : Option Addr) (n cap : Nat) (xs : List Int) (w : World) (h : Ints w a n cap xs) :
    Calls Try.prog 50 #[.int .i64 op, .int .i64 k, .int .i64 s, .slice a n cap] w fun e w' => e = .returned (.bool (mayB op k s xs)) ∧ w' = w := by
  have hl := h.len
  have hm1 : n ≤ 9223372036854775807 := by have := h.le; have := h.max; unfold maxLen at this; omega
  by_cases h1 : ar op < 1
  · rw [show mayB op k s xs = false by simp [mayB]; omega]
    clear hl
    go_enter Try.func50, Try.ntmps50
    go_wp2_with (go_at_call 40; refine (arity_any _ _).mono ?_; rintro e w' ⟨rfl, rfl⟩)
    go_ret
    exact ⟨rfl, rfl⟩
  by_cases h2 : (n : Int) = ar op
  · have h2' : ((n : Int) != ar op) = false := by simp [h2]
    cases hc : cons op k s
    · rw [show mayB op k s xs = false by simp [mayB, hc]]
      clear hl h2
      go_enter Try.func50, Try.ntmps50
      go_wp2_with (first | (go_at_call 40; refine (arity_any _ _).mono ?_; rintro e w' ⟨rfl, rfl⟩) | (go_at_call 54; refine (constants_any _ _ _ _).mono ?_; rintro e w' ⟨rfl, rfl⟩))
      go_ret
      exact ⟨rfl, rfl⟩
    · rw [show mayB op k s xs = xs.all wd by simp [mayB, hc, hl, h2]; omega]
      have HL := hide hl
      clear hl h2
      go_enter Try.func50, Try.ntmps50
      go_wp2_with (first | (go_at_call 40; refine (arity_any _ _).mono ?_; rintro e w' ⟨rfl, rfl⟩) | (go_at_call 54; refine (constants_any _ _ _ _).mono ?_; rintro e w' ⟨rfl, rfl⟩))
      go_loop [31] (fun i => ∃ j : Nat, j ≤ n ∧ i = .int .i64 j ∧ (xs.take j).all wd = true) (fun i => n - (intOf i).toNat)
      case atStart => exact ⟨0, Nat.zero_le _, rfl, rfl⟩
      case round =>
        obtain ⟨j, hj, rfl, hA⟩ := hrel
        have HA := hide hA
        clear hA
        by_cases hlt : j < n
        · obtain ⟨b1, o1, rfl, _, hc1⟩ := h.at (by omega)
          have g1 := hc1 j hlt
          clear hc1
          generalize ea : xs.getD j 0 = x at g1
          have EA := hide ea
          clear ea
          cases hx : wd x
          · go_wp2_with (go_at_call 52; refine (word_any _ _).mono ?_; rintro e w' ⟨rfl, rfl⟩)
            go_ret
            refine ⟨ret_bool ?_, rfl⟩
            symm
            rw [List.all_eq_false]
            refine ⟨x, ?_, by simp [hx]⟩
            have e1 := EA.out
            rw [← e1]
            simp [List.getD, HL.out, hlt]
          · go_wp2_with (go_at_call 52; refine (word_any _ _).mono ?_; rintro e w' ⟨rfl, rfl⟩)
            go_round
            case rel => exact ⟨j + 1, by omega, by go_num, all_take_succ (by rw [HL.out]; exact hlt) HA.out (by rw [EA.out]; exact hx)⟩
            case measure => simp [intOf]; omega
        · go_wp2_with (go_at_call 52; refine (word_any _ _).mono ?_; rintro e w' ⟨rfl, rfl⟩)
          go_ret
          refine ⟨ret_bool ?_, rfl⟩
          have h3 := HA.out
          rw [List.take_of_length_le (by rw [HL.out]; omega)] at h3
          exact h3.symm
  · have h2' : ((n : Int) != ar op) = true := by simp [h2]
    rw [show mayB op k s xs = false by simp [mayB, hl, h2]]
    clear hl h2
    go_enter Try.func50, Try.ntmps50
    go_wp2_with (go_at_call 40; refine (arity_any _ _).mono ?_; rintro e w' ⟨rfl, rfl⟩)
    go_ret
    exact ⟨rfl, rfl⟩

end Go.Proofs.Ytihbhbeaihdgnaa.Spn

/-
  arith.exact and arith.Value; a call over numbers written out.
-/
namespace Go.Proofs.Ytihbhbeaihdgnaa.Spn
open Go.RowKit Go.IntWalk
set_option linter.unusedVariables false

theorem exact_1 (op k s x : Int) (b off cap : Nat) (w : World) (hc : 1 ≤ cap) (ho : ar op = 1) (hk : cons op k s = true) (hx : -2147483648 ≤ x ∧ x ≤ 2147483647)
    (c0 : w.cell? ⟨b, off, none⟩ = some (.int .i64 x)) :
    Calls Try.prog 51 #[.int .i64 op, .int .i64 k, .int .i64 s, .slice (some ⟨b, off, none⟩) 1 cap] w fun e w' => e = .returned (.tuple #[.int .i64 (ex op k s x 0 0).1, .int .i64 (ex op k s x 0 0).2]) ∧ Below w.heap.size w w' := by
  have h2 := fun w => ofOne_any op k s x 0 0 w ho hk hx
  clear ho hk
  go_enter Try.func51, Try.ntmps51
  go_wp2_with (go_at_call 64; refine (h2 _).mono ?_; rintro e w' ⟨rfl, hb⟩)
  go_ret2
  exact ⟨rfl, hb⟩

theorem exact_2 (op k s x y : Int) (b off cap : Nat) (w : World) (hc : 2 ≤ cap) (ho : ar op = 2) (hx : -2147483648 ≤ x ∧ x ≤ 2147483647) (hy : -2147483648 ≤ y ∧ y ≤ 2147483647)
    (c0 : w.cell? ⟨b, off, none⟩ = some (.int .i64 x)) (c1 : w.cell? ⟨b, off + 1, none⟩ = some (.int .i64 y)) :
    Calls Try.prog 51 #[.int .i64 op, .int .i64 k, .int .i64 s, .slice (some ⟨b, off, none⟩) 2 cap] w fun e w' => e = .returned (.tuple #[.int .i64 (ex op k s x y 0).1, .int .i64 (ex op k s x y 0).2]) ∧ Below w.heap.size w w' := by
  have h2 := fun w => ofTwo_any op x y w (two_cases ho) hx hy
  rw [← ex_two op k s x y 0 (two_cases ho)] at h2
  clear ho
  go_enter Try.func51, Try.ntmps51
  go_wp2
  go_quiet ((go_at_call 65; exact Calls.quiet_of_same (h2 _)))
  go_wp2
  go_ret2
  exact ⟨rfl, bdrew (Below.refl _ _) _⟩

theorem ex_three (op k s x y z : Int) (ho : inB op 26 28 = true) : (ex op k s x y z).2 = 0 := by
  have h := inB_iff.1 ho
  rcases (show op = 26 ∨ op = 27 ∨ op = 28 by omega) with rfl | rfl | rfl <;> rfl

theorem exact_3 (op k s x y z : Int) (b off cap : Nat) (w : World) (hc : 3 ≤ cap) (ho : ar op = 3)
    (c0 : w.cell? ⟨b, off, none⟩ = some (.int .i64 x)) (c1 : w.cell? ⟨b, off + 1, none⟩ = some (.int .i64 y)) (c2 : w.cell? ⟨b, off + 2, none⟩ = some (.int .i64 z)) :
    Calls Try.prog 51 #[.int .i64 op, .int .i64 k, .int .i64 s, .slice (some ⟨b, off, none⟩) 3 cap] w fun e w' => e = .returned (.tuple #[.int .i64 (ex op k s x y z).1, .int .i64 (ex op k s x y z).2]) ∧ Below w.heap.size w w' := by
  have h2 := fun w => ofThree_any op k s x y z w (three_cases ho)
  rw [ex_three op k s x y z (three_cases ho)]
  clear ho
  go_enter Try.func51, Try.ntmps51
  go_wp2
  go_quiet ((go_at_call 66; exact Calls.quiet_of_same (h2 _)))
  go_wp2
  go_ret2
  exact ⟨rfl, bdrew (Below.refl _ _) _⟩

theorem exact_any (op k s : Int) (a : Option Addr) (n cap : Nat) (xs : List Int) (w : World) (h : Ints w a n cap xs) (hm : mayB op k s xs = true) :
    Calls Try.prog 51 #[.int .i64 op, .int .i64 k, .int .i64 s, .slice a n cap] w fun e w' =>
      e = .returned (.tuple #[.int .i64 (ex op k s (xs.getD 0 0) (xs.getD 1 0) (xs.getD 2 0)).1, .int .i64 (ex op k s (xs.getD 0 0) (xs.getD 1 0) (xs.getD 2 0)).2]) ∧ Below w.heap.size w w' := by
  simp only [mayB, Bool.and_eq_true, decide_eq_true_eq, List.all_eq_true] at hm
  obtain ⟨⟨⟨m1, m2⟩, m3⟩, m4⟩ := hm
  have hl := h.len
  have h3 := ar_le op
  have hle := h.le
  obtain ⟨b, off, rfl, -, hc⟩ := h.at (by omega)
  have hw : ∀ x ∈ xs, -2147483648 ≤ x ∧ x ≤ 2147483647 := fun x hx => wd_iff.1 (m4 x hx)
  match xs, hl, m2, hc, hw with
  | [x], hl, m2, hc, hw =>
    subst hl
    exact exact_1 op k s x b off cap w hle (by simpa using m2.symm) m3 (hw x (by simp)) (hc 0 (by simp))
  | [x, y], hl, m2, hc, hw =>
    subst hl
    exact exact_2 op k s x y b off cap w hle (by simpa using m2.symm) (hw x (by simp)) (hw y (by simp)) (hc 0 (by simp)) (hc 1 (by simp))
  | [x, y, z], hl, m2, hc, hw =>
    subst hl
    exact exact_3 op k s x y z b off cap w hle (by simpa using m2.symm) (hc 0 (by simp)) (hc 1 (by simp)) (hc 2 (by simp))
  | [], hl, m2, hc, hw => simp at m2; omega
  | _ :: _ :: _ :: _ :: _, hl, m2, hc, hw => simp at m2; omega

/-- What arith.Value answers. -/
def valZ (op k s : Int) (xs : List Int) : Int × Int :=
  if mayB op k s xs = true then
    (if (ex op k s (xs.getD 0 0) (xs.getD 1 0) (xs.getD 2 0)).2 = 0 then
      (if wd (ex op k s (xs.getD 0 0) (xs.getD 1 0) (xs.getD 2 0)).1 = true then ((ex op k s (xs.getD 0 0) (xs.getD 1 0) (xs.getD 2 0)).1, 0) else (0, 13))
    else (0, (ex op k s (xs.getD 0 0) (xs.getD 1 0) (xs.getD 2 0)).2))
  else (0, 1)

theorem value_any (op k s : Int) (a : Option Addr) (n cap : Nat) (xs : List Int) (w : World) (h : Ints w a n cap xs) :
    Calls Try.prog 37 #[.int .i64 op, .int .i64 k, .int .i64 s, .slice a n cap] w fun e w' => e = .returned (.tuple #[.int .i64 (valZ op k s xs).1, .int .i64 (valZ op k s xs).2]) ∧ Below w.heap.size w w' := by
  have H := hide h
  clear h
  cases hm : mayB op k s xs
  · rw [show valZ op k s xs = (0, 1) by simp [valZ, hm]]
    go_enter Try.func37, Try.ntmps37
    go_wp2_with (go_at_call 50; refine (may_any _ _ _ _ _ _ _ _ H.out).mono ?_; rintro e w' ⟨rfl, rfl⟩)
    go_ret2
    exact ⟨rfl, Below.refl _ _⟩
  · have H2 := hide (exact_any op k s a n cap xs w H.out hm)
    unfold valZ
    rw [if_pos hm]
    generalize ex op k s (xs.getD 0 0) (xs.getD 1 0) (xs.getD 2 0) = E at *
    obtain ⟨x, e⟩ := E
    by_cases he : e = 0
    · subst he
      rw [if_pos rfl]
      cases hx : wd x
      · rw [if_neg (by simp)]
        go_enter Try.func37, Try.ntmps37
        go_wp2_with (first | (go_at_call 50; refine (may_any _ _ _ _ _ _ _ _ H.out).mono ?_; rintro e w' ⟨rfl, rfl⟩) | (go_at_call 51; refine H2.out.mono ?_; rintro e w2 ⟨rfl, hb⟩) | (go_at_call 52; refine (word_any _ _).mono ?_; rintro e w' ⟨rfl, rfl⟩))
        go_ret2
        exact ⟨rfl, hb⟩
      · rw [if_pos (by simp)]
        go_enter Try.func37, Try.ntmps37
        go_wp2_with (first | (go_at_call 50; refine (may_any _ _ _ _ _ _ _ _ H.out).mono ?_; rintro e w' ⟨rfl, rfl⟩) | (go_at_call 51; refine H2.out.mono ?_; rintro e w2 ⟨rfl, hb⟩) | (go_at_call 52; refine (word_any _ _).mono ?_; rintro e w' ⟨rfl, rfl⟩))
        go_ret2
        exact ⟨rfl, hb⟩
    · rw [if_neg he]
      have he' : (e != 0) = true := by simp [he]
      clear he
      go_enter Try.func37, Try.ntmps37
      go_wp2_with (first | (go_at_call 50; refine (may_any _ _ _ _ _ _ _ _ H.out).mono ?_; rintro e w' ⟨rfl, rfl⟩) | (go_at_call 51; refine H2.out.mono ?_; rintro e w2 ⟨rfl, hb⟩) | (go_at_call 52; refine (word_any _ _).mono ?_; rintro e w' ⟨rfl, rfl⟩))
      go_ret2
      exact ⟨rfl, hb⟩

theorem lit1 (w : World) (t : TypeId) (x : Int) : Ints (w.alloc (.cells #[.int .i64 x] t)) (some ⟨w.heap.size, 0, none⟩) 1 1 [x] := by
  refine ⟨rfl, Nat.le_refl _, by decide, (fun h => by cases h), .inr ⟨_, _, rfl, fun i hi => ?_⟩⟩
  obtain rfl : i = 0 := by omega
  simp
theorem lit2 (w : World) (t : TypeId) (x y : Int) : Ints (w.alloc (.cells #[.int .i64 x, .int .i64 y] t)) (some ⟨w.heap.size, 0, none⟩) 2 2 [x, y] := by
  refine ⟨rfl, Nat.le_refl _, by decide, (fun h => by cases h), .inr ⟨_, _, rfl, fun i hi => ?_⟩⟩
  rcases (show i = 0 ∨ i = 1 by omega) with rfl | rfl <;> simp
theorem lit3 (w : World) (t : TypeId) (x y z : Int) : Ints (w.alloc (.cells #[.int .i64 x, .int .i64 y, .int .i64 z] t)) (some ⟨w.heap.size, 0, none⟩) 3 3 [x, y, z] := by
  refine ⟨rfl, Nat.le_refl _, by decide, (fun h => by cases h), .inr ⟨_, _, rfl, fun i hi => ?_⟩⟩
  rcases (show i = 0 ∨ i = 1 ∨ i = 2 by omega) with rfl | rfl | rfl <;> simp

end Go.Proofs.Ytihbhbeaihdgnaa.Spn

/-
  The document's own Arity, Constants and Word, and the walk of ArithNames.
-/
namespace Go.Proofs.Ytihbhbeaihdgnaa.Spn
open Go.RowKit Go.IntWalk
set_option linter.unusedVariables false

theorem ar_out {op : Int} (h : op < 1 ∨ op = 4 ∨ 33 < op) : ar op = -1 := by
  unfold ar
  rw [if_neg (by omega), if_neg (by rw [inB_iff, inB_iff]; omega), if_neg (by rw [inB_iff]; omega), if_neg (by rw [inB_iff]; omega)]
theorem ar_0 {op : Int} (h : op = 1 ∨ op = 2 ∨ op = 3) : ar op = 0 := by
  unfold ar
  rw [if_pos h]
theorem ar_1 {op : Int} (h : 5 ≤ op ∧ op ≤ 7 ∨ 29 ≤ op ∧ op ≤ 33) : ar op = 1 := by
  unfold ar
  rw [if_neg (by omega), if_pos (by rw [inB_iff, inB_iff]; omega)]
theorem ar_2 {op : Int} (h : 8 ≤ op ∧ op ≤ 25) : ar op = 2 := by
  unfold ar
  rw [if_neg (by omega), if_neg (by rw [inB_iff, inB_iff]; omega), if_pos (by rw [inB_iff]; omega)]
theorem ar_3 {op : Int} (h : 26 ≤ op ∧ op ≤ 28) : ar op = 3 := by
  unfold ar
  rw [if_neg (by omega), if_neg (by rw [inB_iff, inB_iff]; omega), if_neg (by rw [inB_iff]; omega), if_pos (by rw [inB_iff]; omega)]

end Go.Proofs.Ytihbhbeaihdgnaa.Spn

/-
  The bitwise operators on whole numbers, digit by digit.
-/
namespace Go.Proofs.Ytihbhbeaihdgnaa.Spn
open Go.RowKit Go.IntWalk
set_option linter.unusedVariables false

/-- The three operators. -/
abbrev Bop := Option Bool
abbrev Bop.and : Bop := none
abbrev Bop.or : Bop := some false
abbrev Bop.xor : Bop := some true
def Bop.op (o : Bop) : BinOp := match o with | none => .and | some false => .or | some true => .xor
def Bop.bv (o : Bop) (x y : BitVec 64) : BitVec 64 := match o with | none => x &&& y | some false => x ||| y | some true => x ^^^ y
def Bop.dig (o : Bop) (p q : Int) : Int := match o with | none => p * q | some false => p + q - p * q | some true => (p + q) % 2

def bw (o : Bop) (a b : Int) : Int := bits o.op .i64 a b

theorem bw_eq (o : Bop) (a b : Int) : bw o a b = (o.bv (BitVec.ofInt 64 a) (BitVec.ofInt 64 b)).toInt := by
  have h : bw o a b = IntKind.i64.wrap ((o.bv (BitVec.ofInt 64 a) (BitVec.ofInt 64 b)).toNat : Int) := by rcases o with _ | _ | _ <;> rfl
  rw [h]
  generalize o.bv (BitVec.ofInt 64 a) (BitVec.ofInt 64 b) = z
  have h1 := z.isLt
  rw [BitVec.toInt_eq_toNat_cond]
  simp [IntKind.wrap, IntKind.bits, IntKind.signed]
  split <;> omega

theorem half_bv (z : BitVec 64) : z.toInt = (z.toNat % 2 : Nat) + 2 * (z.sshiftRight 1).toInt := by
  rw [BitVec.toInt_sshiftRight, Int.shiftRight_eq_div_pow, BitVec.toInt_eq_toNat_cond]
  split <;> omega

theorem half_ofInt (a : Int) (ha : -9223372036854775808 ≤ a ∧ a ≤ 9223372036854775807) : (BitVec.ofInt 64 a).sshiftRight 1 = BitVec.ofInt 64 (a / 2) := by
  apply BitVec.eq_of_toInt_eq
  rw [BitVec.toInt_sshiftRight, Int.shiftRight_eq_div_pow, BitVec.toInt_ofInt, BitVec.toInt_ofInt]
  simp only [Int.bmod]
  omega

theorem bit_ofInt (a : Int) : (((BitVec.ofInt 64 a).toNat % 2 : Nat) : Int) = a % 2 := by
  rw [BitVec.toNat_ofInt]
  omega

theorem dig_nat (o : Bop) (x y : BitVec 64) : (((o.bv x y).toNat % 2 : Nat) : Int) = o.dig ((x.toNat % 2 : Nat) : Int) ((y.toNat % 2 : Nat) : Int) := by
  have hx : x.toNat % 2 = 0 ∨ x.toNat % 2 = 1 := by omega
  have hy : y.toNat % 2 = 0 ∨ y.toNat % 2 = 1 := by omega
  rcases o with _ | _ | _
  · have h : (x.toNat &&& y.toNat) % 2 = (x.toNat % 2) * (y.toNat % 2) := by
      have h1 := Nat.and_mod_two_eq_one (a := x.toNat) (b := y.toNat)
      rcases hx with hx | hx <;> rcases hy with hy | hy <;> rw [hx, hy] at h1 ⊢ <;> omega
    show (((x &&& y).toNat % 2 : Nat) : Int) = _
    rw [BitVec.toNat_and, h]
    rcases hx with hx | hx <;> rcases hy with hy | hy <;> rw [hx, hy] <;> decide
  · have h : (x.toNat ||| y.toNat) % 2 = x.toNat % 2 + y.toNat % 2 - (x.toNat % 2) * (y.toNat % 2) := by
      have h1 := Nat.or_mod_two_eq_one (a := x.toNat) (b := y.toNat)
      rcases hx with hx | hx <;> rcases hy with hy | hy <;> rw [hx, hy] at h1 ⊢ <;> omega
    show (((x ||| y).toNat % 2 : Nat) : Int) = _
    rw [BitVec.toNat_or, h]
    rcases hx with hx | hx <;> rcases hy with hy | hy <;> rw [hx, hy] <;> decide
  · have h : (x.toNat ^^^ y.toNat) % 2 = (x.toNat % 2 + y.toNat % 2) % 2 := by
      have h1 := Nat.xor_mod_two_eq_one (a := x.toNat) (b := y.toNat)
      rcases hx with hx | hx <;> rcases hy with hy | hy <;> rw [hx, hy] at h1 ⊢ <;> omega
    show (((x ^^^ y).toNat % 2 : Nat) : Int) = _
    rw [BitVec.toNat_xor, h]
    rcases hx with hx | hx <;> rcases hy with hy | hy <;> rw [hx, hy] <;> decide

theorem shr_bv (o : Bop) (x y : BitVec 64) : (o.bv x y).sshiftRight 1 = o.bv (x.sshiftRight 1) (y.sshiftRight 1) := by
  rcases o with _ | _ | _
  · exact BitVec.sshiftRight_and_distrib ..
  · exact BitVec.sshiftRight_or_distrib ..
  · exact BitVec.sshiftRight_xor_distrib ..

theorem bw_step (o : Bop) (a b : Int) (ha : -9223372036854775808 ≤ a ∧ a ≤ 9223372036854775807) (hb : -9223372036854775808 ≤ b ∧ b ≤ 9223372036854775807) :
    bw o a b = o.dig (a % 2) (b % 2) + 2 * bw o (a / 2) (b / 2) := by
  rw [bw_eq, bw_eq, half_bv, shr_bv, half_ofInt a ha, half_ofInt b hb, dig_nat, bit_ofInt, bit_ofInt]

theorem two_dig (a : Int) : a % 2 = 0 ∨ a % 2 = 1 := by omega

end Go.Proofs.Ytihbhbeaihdgnaa.Spn

/-
  The laws of the bitwise operators on numbers of 32 bits.
-/
namespace Go.Proofs.Ytihbhbeaihdgnaa.Spn
open Go.RowKit Go.IntWalk
set_option linter.unusedVariables false

theorem bw_induct (P : Int → Int → Prop) (h0 : P 0 0) (h1 : P 0 (-1)) (h2 : P (-1) 0) (h3 : P (-1) (-1))
    (hs : ∀ a b : Int, (-9223372036854775808 ≤ a ∧ a ≤ 9223372036854775807) → (-9223372036854775808 ≤ b ∧ b ≤ 9223372036854775807) → P (a / 2) (b / 2) → P a b) :
    ∀ n : Nat, n ≤ 63 → ∀ a b : Int, (-(2 ^ n : Nat) ≤ a ∧ a < (2 ^ n : Nat)) → (-(2 ^ n : Nat) ≤ b ∧ b < (2 ^ n : Nat)) → P a b := by
  intro n
  induction n with
  | zero =>
    intro _ a b ha hb
    have ha' : a = 0 ∨ a = -1 := by simp at ha; omega
    have hb' : b = 0 ∨ b = -1 := by simp at hb; omega
    rcases ha' with rfl | rfl <;> rcases hb' with rfl | rfl <;> assumption
  | succ n ih =>
    intro hn a b ha hb
    have hp : 2 ^ (n + 1) ≤ 2 ^ 63 := Nat.pow_le_pow_right (by decide) hn
    rw [Nat.pow_succ] at ha hb hp
    exact hs a b (by omega) (by omega) (ih (by omega) _ _ (by omega) (by omega))

theorem bw_32 (P : Int → Int → Prop) (h0 : P 0 0) (h1 : P 0 (-1)) (h2 : P (-1) 0) (h3 : P (-1) (-1))
    (hs : ∀ a b : Int, (-9223372036854775808 ≤ a ∧ a ≤ 9223372036854775807) → (-9223372036854775808 ≤ b ∧ b ≤ 9223372036854775807) → P (a / 2) (b / 2) → P a b)
    {a b : Int} (ha : -2147483648 ≤ a ∧ a ≤ 2147483647) (hb : -2147483648 ≤ b ∧ b ≤ 2147483647) : P a b :=
  bw_induct P h0 h1 h2 h3 hs 31 (by decide) a b (by omega) (by omega)

theorem bw_sum {a b : Int} (ha : -2147483648 ≤ a ∧ a ≤ 2147483647) (hb : -2147483648 ≤ b ∧ b ≤ 2147483647) : bw .and a b + bw .or a b = a + b := by
  refine bw_32 (fun a b => bw .and a b + bw .or a b = a + b) (by decide) (by decide) (by decide) (by decide) ?_ ha hb
  intro a b ha hb h
  show bw .and a b + bw .or a b = a + b
  rw [bw_step .and a b ha hb, bw_step .or a b ha hb]
  simp only [Bop.dig]
  generalize a % 2 * (b % 2) = m
  omega

theorem bw_diff {a b : Int} (ha : -2147483648 ≤ a ∧ a ≤ 2147483647) (hb : -2147483648 ≤ b ∧ b ≤ 2147483647) : bw .or a b - bw .and a b = bw .xor a b := by
  refine bw_32 (fun a b => bw .or a b - bw .and a b = bw .xor a b) (by decide) (by decide) (by decide) (by decide) ?_ ha hb
  intro a b ha hb h
  show bw .or a b - bw .and a b = bw .xor a b
  rw [bw_step .and a b ha hb, bw_step .or a b ha hb, bw_step .xor a b ha hb]
  simp only [Bop.dig]
  rcases two_dig a with e | e <;> rcases two_dig b with f | f <;> rw [e, f] <;> omega

/-- Each digit's answer is a digit. -/
theorem dig_01 (o : Bop) (a b : Int) : 0 ≤ o.dig (a % 2) (b % 2) ∧ o.dig (a % 2) (b % 2) ≤ 1 := by
  rcases o with _ | _ | _ <;> simp only [Bop.dig] <;> rcases two_dig a with e | e <;> rcases two_dig b with f | f <;> rw [e, f] <;> decide

theorem bw_range (o : Bop) (n : Nat) (hn : n ≤ 63) (a b : Int) (ha : -(2 ^ n : Nat) ≤ a ∧ a < (2 ^ n : Nat)) (hb : -(2 ^ n : Nat) ≤ b ∧ b < (2 ^ n : Nat)) : -((2 ^ n : Nat) : Int) ≤ bw o a b ∧ bw o a b < (2 ^ n : Nat) := by
  induction n generalizing a b with
  | zero =>
    have ha' : a = 0 ∨ a = -1 := by simp at ha; omega
    have hb' : b = 0 ∨ b = -1 := by simp at hb; omega
    rcases ha' with rfl | rfl <;> rcases hb' with rfl | rfl <;> rcases o with _ | _ | _ <;> decide
  | succ n ih =>
    have hp : 2 ^ (n + 1) ≤ 2 ^ 63 := Nat.pow_le_pow_right (by decide) hn
    rw [Nat.pow_succ] at ha hb hp ⊢
    have h := ih (by omega) (a / 2) (b / 2) (by omega) (by omega)
    have h2 := dig_01 o a b
    rw [bw_step o a b (by omega) (by omega)]
    omega

theorem bw_wd (o : Bop) {a b : Int} (ha : -2147483648 ≤ a ∧ a ≤ 2147483647) (hb : -2147483648 ≤ b ∧ b ≤ 2147483647) : -2147483648 ≤ bw o a b ∧ bw o a b ≤ 2147483647 := by
  have h := bw_range o 31 (by decide) a b (by omega) (by omega)
  omega

theorem bw_turn {a : Int} (ha : -2147483648 ≤ a ∧ a ≤ 2147483647) : bw .xor a (-1) = -a - 1 := by
  have h := bw_32 (fun a b => b = -1 → bw .xor a b = -a - 1) (fun h => by cases h) (fun _ => by decide) (fun h => by cases h) (fun _ => by decide) (by
    intro a b ha hb h e
    subst e
    have h1 := h (by decide)
    rw [show ((-1 : Int) / 2) = -1 by decide] at h1
    show bw .xor a (-1) = -a - 1
    rw [bw_step .xor a (-1) ha (by omega), show ((-1 : Int) / 2) = -1 by decide, h1]
    simp only [Bop.dig]
    omega) ha (show -2147483648 ≤ (-1 : Int) ∧ (-1 : Int) ≤ 2147483647 by decide)
  exact h rfl

theorem bw_none {a : Int} (ha : -2147483648 ≤ a ∧ a ≤ 2147483647) : bw .and a (-a - 1) = 0 := by
  have h := bw_32 (fun a b => b = -a - 1 → bw .and a b = 0) (fun _ => by decide) (fun _ => by decide) (fun _ => by decide) (fun h => by omega) (by
    intro a b ha hb h e
    have h1 := h (by omega)
    show bw .and a b = 0
    rw [bw_step .and a b ha hb, h1]
    simp only [Bop.dig]
    rcases two_dig a with f | f
    · rw [f]; omega
    · rw [f, show b % 2 = 0 by omega]; decide) ha (show -2147483648 ≤ -a - 1 ∧ -a - 1 ≤ 2147483647 by omega)
  exact h rfl

theorem bw_below {a b : Int} (ha : -2147483648 ≤ a ∧ a ≤ 2147483647) (hb : 0 ≤ b ∧ b ≤ 2147483647) : 0 ≤ bw .and a b ∧ bw .and a b ≤ b := by
  have h := bw_32 (fun a b => 0 ≤ b → 0 ≤ bw .and a b ∧ bw .and a b ≤ b) (fun _ => by decide) (fun _ => by omega) (fun _ => by decide) (fun _ => by omega) (by
    intro a b ha hb h e
    have h1 := h (by omega)
    show 0 ≤ bw .and a b ∧ bw .and a b ≤ b
    rw [bw_step .and a b ha hb]
    simp only [Bop.dig]
    rcases two_dig a with f | f <;> rcases two_dig b with g | g <;> rw [f, g] <;> omega) ha (show -2147483648 ≤ b ∧ b ≤ 2147483647 by omega)
  exact h hb.1

end Go.Proofs.Ytihbhbeaihdgnaa.Spn
