/-
  arith.Value: what it answers, for every operator, every constants and every list of numbers; memory stays.
-/
import Derived.Test.YtlhbgkaknfhlnaaSpOps
import Derived.LoopTactic
namespace Go.Proofs.Ytlhbgkaknfhlnaa.Spn
open Go.RowKit Go.IntWalk
set_option linter.unusedVariables false

theorem one_cases {op : Int} (h : ar op = 1) : op = 5 ∨ op = 6 ∨ op = 7 ∨ op = 29 ∨ op = 30 ∨ op = 31 ∨ op = 32 ∨ op = 33 := by
  unfold ar at h
  split at h
  · omega
  · split at h
    · rename_i h2
      rw [inB_iff, inB_iff] at h2
      omega
    · split at h
      · omega
      · split at h <;> omega
theorem two_cases {op : Int} (h : ar op = 2) : inB op 8 25 = true := by
  unfold ar at h
  split at h
  · omega
  · split at h
    · omega
    · split at h
      · assumption
      · split at h <;> omega
theorem three_cases {op : Int} (h : ar op = 3) : inB op 26 28 = true := by
  unfold ar at h
  split at h
  · omega
  · split at h
    · omega
    · split at h
      · omega
      · split at h
        · assumption
        · omega
theorem ar_le (op : Int) : ar op ≤ 3 := by
  unfold ar
  split
  · omega
  · split
    · omega
    · split
      · omega
      · split <;> omega

theorem ofOne_any (op k s a b c : Int) (w : World) (ho : ar op = 1) (hc : cons op k s = true) (ha : -2147483648 ≤ a ∧ a ≤ 2147483647) :
    Calls Try.prog 45 #[.int .i64 op, .int .i64 k, .int .i64 s, .int .i64 a] w fun e w' => e = .returned (.tuple #[.int .i64 (ex op k s a b c).1, .int .i64 (ex op k s a b c).2]) ∧ Below w.heap.size w w' := by
  rcases one_cases ho with rfl | rfl | rfl | rfl | rfl | rfl | rfl | rfl <;> clear ho
  · clear hc
    go_enter Try.func45, Try.ntmps45
    go_wp2
    go_ret2
    exact ⟨rfl, Below.refl _ _⟩
  · clear hc
    go_enter Try.func45, Try.ntmps45
    go_wp2_with (go_at_call 55; refine (size_any _ _ ha).mono ?_; rintro e w' ⟨rfl, rfl⟩)
    go_ret2
    exact ⟨rfl, Below.refl _ _⟩
  · clear hc
    go_enter Try.func45, Try.ntmps45
    go_wp2_with (go_at_call 56; refine (compare_any _ _ _).mono ?_; rintro e w' ⟨rfl, rfl⟩)
    go_ret2
    exact ⟨rfl, Below.refl _ _⟩
  · have hk : inB k 0 31 = true := hc
    have hk' := inB_iff.1 hk
    have h2 := fun w => ofTwo_any 13 a k w rfl ha (by omega)
    rw [show ex 13 0 0 a k 0 = ex 29 k s a b c by simp [ex, hk]] at h2
    clear hc hk
    go_enter Try.func45, Try.ntmps45
    go_wp2_with (go_at_call 46; refine (h2 _).mono ?_; rintro e w' ⟨rfl, rfl⟩)
    go_ret2
    exact ⟨rfl, Below.refl _ _⟩
  · have hk : inB k 0 31 = true := hc
    have hk' := inB_iff.1 hk
    have h2 := fun w => ofTwo_any 14 a k w rfl ha (by omega)
    rw [show ex 14 0 0 a k 0 = ex 30 k s a b c by simp [ex, hk]] at h2
    clear hc hk
    go_enter Try.func45, Try.ntmps45
    go_wp2_with (go_at_call 46; refine (h2 _).mono ?_; rintro e w' ⟨rfl, rfl⟩)
    go_ret2
    exact ⟨rfl, Below.refl _ _⟩
  · have hk : inB k 0 2147483647 = true := hc
    have hk' := inB_iff.1 hk
    have h2 := fun w => ofTwo_any 15 a k w rfl ha (by omega)
    rw [show ex 15 0 0 a k 0 = ex 31 k s a b c from rfl] at h2
    clear hc hk
    go_enter Try.func45, Try.ntmps45
    go_wp2_with (go_at_call 46; refine (h2 _).mono ?_; rintro e w' ⟨rfl, rfl⟩)
    go_ret2
    exact ⟨rfl, Below.refl _ _⟩
  · have hk : wd k = true := hc
    have hk' := wd_iff.1 hk
    have h2 := fun w => ofTwo_any 10 a k w rfl ha (by omega)
    rw [show ex 10 0 0 a k 0 = ex 32 k s a b c from rfl] at h2
    clear hc hk
    go_enter Try.func45, Try.ntmps45
    go_wp2_with (go_at_call 46; refine (h2 _).mono ?_; rintro e w' ⟨rfl, rfl⟩)
    go_ret2
    exact ⟨rfl, Below.refl _ _⟩
  · have hk : (inB k 1 4611686018427387904 && inB s 0 62) = true := hc
    rw [Bool.and_eq_true, inB_iff, inB_iff] at hk
    have h2 := fun w => scaled_any k s a b c w hk.1 hk.2 ha
    clear hc hk
    go_enter Try.func45, Try.ntmps45
    go_wp2_with (go_at_call 57; refine (h2 _).mono ?_; rintro e w' ⟨rfl, hb⟩)
    go_ret2
    exact ⟨rfl, hb⟩

/-- The slice (a, n, cap) reads as the numbers xs. -/
structure Ints (w : World) (a : Option Addr) (n cap : Nat) (xs : List Int) : Prop where
  len : xs.length = n
  le : n ≤ cap
  max : cap ≤ maxLen
  nil : a = none → cap = 0
  cell : n = 0 ∨ ∃ b off, a = some ⟨b, off, none⟩ ∧ ∀ i, i < n → w.cell? ⟨b, off + i, none⟩ = some (.int .i64 (xs.getD i 0))

theorem Ints.at {w : World} {a : Option Addr} {n cap : Nat} {xs : List Int} (h : Ints w a n cap xs) (hn : n ≠ 0) :
    ∃ b off, a = some ⟨b, off, none⟩ ∧ b < w.heap.size ∧ ∀ i, i < n → w.cell? ⟨b, off + i, none⟩ = some (.int .i64 (xs.getD i 0)) := by
  rcases h.cell with h0 | ⟨b, off, ha, hc⟩
  · exact absurd h0 hn
  · exact ⟨b, off, ha, World.block_lt_of_cell? w _ (hc 0 (by omega)), hc⟩

theorem Ints.of_cells {w w' : World} {a : Option Addr} {n cap : Nat} {xs : List Int} (h : Ints w a n cap xs)
    (hc : ∀ b off, a = some ⟨b, off, none⟩ → n ≠ 0 → ∀ i, i < n → w'.cell? ⟨b, off + i, none⟩ = w.cell? ⟨b, off + i, none⟩) : Ints w' a n cap xs := by
  refine ⟨h.len, h.le, h.max, h.nil, ?_⟩
  by_cases hn : n = 0
  · exact .inl hn
  · obtain ⟨b, off, ha, _, hcell⟩ := h.at hn
    exact .inr ⟨b, off, ha, fun i hi => (hc b off ha hn i hi).trans (hcell i hi)⟩

theorem Ints.later {w w' : World} {a : Option Addr} {n cap : Nat} {xs : List Int} (h : Ints w a n cap xs) (hb : Below w.heap.size w w') : Ints w' a n cap xs := by
  refine h.of_cells fun b off ha hn i hi => ?_
  obtain ⟨b', off', ha', hlt, _⟩ := h.at hn
  rw [ha] at ha'
  cases ha'
  exact hb.cell (p := ⟨b, off + i, none⟩) hlt

def mayB (op k s : Int) (xs : List Int) : Bool := decide (1 ≤ ar op) && decide ((xs.length : Int) = ar op) && cons op k s && xs.all wd

theorem all_take_succ {xs : List Int} {k : Nat} (hk : k < xs.length) (h : (xs.take k).all wd = true) (e : wd (xs.getD k 0) = true) : (xs.take (k + 1)).all wd = true := by
  rw [List.take_succ_eq_append_getElem hk, List.all_append, h]
  simp [List.getD, hk] at e
  simp [e]

set_option maxRecDepth 100000 in
set_option maxHeartbeats 1000000 in
theorem may_any (op k s : Int) (a : Option Addr) (n cap : Nat) (xs : List Int) (w : World) (h : Ints w a n cap xs) :
    Calls Try.prog 37 #[.int .i64 op, .int .i64 k, .int .i64 s, .slice a n cap] w fun e w' => e = .returned (.bool (mayB op k s xs)) ∧ w' = w := by
  have hl := h.len
  have hm1 : n ≤ 9223372036854775807 := by have := h.le; have := h.max; unfold maxLen at this; omega
  by_cases h1 : ar op < 1
  · rw [show mayB op k s xs = false by simp [mayB]; omega]
    clear hl
    go_enter Try.func37, Try.ntmps37
    go_wp2_with (go_at_call 26; refine (arity_any _ _).mono ?_; rintro e w' ⟨rfl, rfl⟩)
    go_ret
    exact ⟨rfl, rfl⟩
  by_cases h2 : (n : Int) = ar op
  · have h2' : ((n : Int) != ar op) = false := by simp [h2]
    cases hc : cons op k s
    · rw [show mayB op k s xs = false by simp [mayB, hc]]
      clear hl h2
      go_enter Try.func37, Try.ntmps37
      go_wp2_with (first | (go_at_call 26; refine (arity_any _ _).mono ?_; rintro e w' ⟨rfl, rfl⟩) | (go_at_call 35; refine (constants_any _ _ _ _).mono ?_; rintro e w' ⟨rfl, rfl⟩))
      go_ret
      exact ⟨rfl, rfl⟩
    · rw [show mayB op k s xs = xs.all wd by simp [mayB, hc, hl, h2]; omega]
      have HL := hide hl
      clear hl h2
      go_enter Try.func37, Try.ntmps37
      go_wp2_with (first | (go_at_call 26; refine (arity_any _ _).mono ?_; rintro e w' ⟨rfl, rfl⟩) | (go_at_call 35; refine (constants_any _ _ _ _).mono ?_; rintro e w' ⟨rfl, rfl⟩))
      go_loop [31] (fun i => ∃ j : Nat, j ≤ n ∧ i = .int .i64 j ∧ (xs.take j).all wd = true) (fun i => n - (intOf i).toNat)
      case atStart => exact ⟨0, Nat.zero_le _, rfl, rfl⟩
      case round =>
        obtain ⟨j, hj, rfl, hA⟩ := hrel
        have HA := hide hA
        clear hA
        by_cases hlt : j < n
        · obtain ⟨b1, o1, rfl, _, hc1⟩ := h.at (by omega)
          have g1 := hc1 j hlt
          clear hc1
          generalize ea : xs.getD j 0 = x at g1
          have EA := hide ea
          clear ea
          cases hx : wd x
          · go_wp2_with (go_at_call 10; refine (word_any _ _).mono ?_; rintro e w' ⟨rfl, rfl⟩)
            go_ret
            refine ⟨ret_bool ?_, rfl⟩
            symm
            rw [List.all_eq_false]
            refine ⟨x, ?_, by simp [hx]⟩
            have e1 := EA.out
            rw [← e1]
            simp [List.getD, HL.out, hlt]
          · go_wp2_with (go_at_call 10; refine (word_any _ _).mono ?_; rintro e w' ⟨rfl, rfl⟩)
            go_round
            case rel => exact ⟨j + 1, by omega, by go_num, all_take_succ (by rw [HL.out]; exact hlt) HA.out (by rw [EA.out]; exact hx)⟩
            case measure => simp [intOf]; omega
        · go_wp2_with (go_at_call 10; refine (word_any _ _).mono ?_; rintro e w' ⟨rfl, rfl⟩)
          go_ret
          refine ⟨ret_bool ?_, rfl⟩
          have h3 := HA.out
          rw [List.take_of_length_le (by rw [HL.out]; omega)] at h3
          exact h3.symm
  · have h2' : ((n : Int) != ar op) = true := by simp [h2]
    rw [show mayB op k s xs = false by simp [mayB, hl, h2]]
    clear hl h2
    go_enter Try.func37, Try.ntmps37
    go_wp2_with (go_at_call 26; refine (arity_any _ _).mono ?_; rintro e w' ⟨rfl, rfl⟩)
    go_ret
    exact ⟨rfl, rfl⟩

end Go.Proofs.Ytlhbgkaknfhlnaa.Spn
