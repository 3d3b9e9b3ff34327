/-
  The walks of damaskref02.Take, Count and End: what is read of a list of bits, by definition.
-/
import Derived.Test.YtkmhdkeneggceaaRef2
namespace Go.Proofs.Ytkmhdkeneggceaa
open Go.RowKit Bt
set_option linter.unusedVariables false

abbrev fn (xs : List Int) (k : Nat) : Int := xs.getD k 0

theorem ret_two' {x y : Int} {t : Int × Nat × Int} (h : t = (x, t.2.1, y)) : Ending.returned (.tuple #[.int .i64 x, .int .i64 y]) = .returned (.tuple #[.int .i64 t.1, .int .i64 t.2.2]) := by rw [h]
theorem ret_three {x z : Int} {y : Nat} {t : Int × Nat × Int} (h : t = (x, y, z)) : Ending.returned (.tuple #[.int .i64 x, .int .i64 (y : Nat), .int .i64 z]) = .returned (.tuple #[.int .i64 t.1, .int .i64 (t.2.1 : Nat), .int .i64 t.2.2]) := by rw [h]

set_option maxHeartbeats 1000000 in
theorem refTake_any (a : Option Addr) (n c : Nat) (xs : List Int) (d : Int) (w : World) (hI : Ints w a n c xs) (hbin : Bin xs) :
    Calls Try.prog 23 #[.slice a n c, .int .i64 d] w fun e w' => e = .returned (.tuple #[.int .i64 (tk (fn xs) 0 n d).1, .int .i64 (tk (fn xs) 0 n d).2.2]) ∧ w' = w := by
  have HI := hide hI
  have hmx : n ≤ 9223372036854775807 := by have := hI.le; have := hI.max; unfold maxLen at this; omega
  clear hI
  by_cases h1 : d < 0
  · rw [tk_bad (.inl h1)]
    go_enter Try.func23, Try.ntmps23
    go_wp2_with fail
    go_ret2
    exact ⟨rfl, rfl⟩
  · by_cases h2 : 32 < d
    · rw [tk_bad (.inr h2)]
      go_enter Try.func23, Try.ntmps23
      go_wp2_with fail
      go_ret2
      exact ⟨rfl, rfl⟩
    · obtain ⟨k, rfl⟩ := Int.eq_ofNat_of_zero_le (show 0 ≤ d by omega)
      by_cases h3 : n < k
      · rw [tk_short (by omega) h3]
        go_enter Try.func23, Try.ntmps23
        go_wp2_with fail
        go_ret2
        exact ⟨rfl, rfl⟩
      · have HT := hide (tk_ok (f := fn xs) (a := 0) (show k ≤ 32 by omega) (show k ≤ n by omega))
        rw [HT.out]
        go_enter Try.func23, Try.ntmps23
        go_wp2_with fail
        go_loop [6, 7] (fun x i => ∃ j : Nat, j ≤ k ∧ i = .int .i64 (j : Nat) ∧ x = .int .i64 (num (fn xs) 0 j)) (fun _ i => k - (intOf i).toNat)
        case atStart => exact ⟨0, Nat.zero_le _, rfl, rfl⟩
        case round =>
          obtain ⟨j, hj, rfl, rfl⟩ := hrel
          obtain ⟨hn0, hn1⟩ := num_range (fun k => bin_getD hbin k) 0 j
          have hn2 : num (fn xs) 0 j < 4294967296 := Int.lt_of_lt_of_le hn1 (pow_le_32 (by omega))
          have hn0' : 0 ≤ num (fn xs) 0 j := hn0
          clear hn0 hn1
          by_cases hlt : j < k
          · have HS : Hid (num (fn xs) 0 (j + 1) = 2 * num (fn xs) 0 j + xs.getD j 0) := hide (by simp only [num, fn, Nat.zero_add])
            obtain ⟨b, off, rfl, _, hc⟩ := HI.out.at (by omega)
            have c0 := hc j (by omega)
            obtain ⟨hb0, hb1⟩ := bin_getD hbin j
            clear hc
            generalize num (fn xs) 0 j = N at *
            generalize xs.getD j 0 = Y at *
            go_wp2_with fail
            go_round
            case rel => exact ⟨j + 1, by omega, by go_num, by rw [HS.out]⟩
            case measure => simp [intOf]; omega
          · obtain rfl : j = k := by omega
            go_wp2_with fail
            go_ret2
            exact ⟨rfl, rfl⟩

set_option maxHeartbeats 1000000 in
theorem refCount_any (a : Option Addr) (n c : Nat) (xs : List Int) (d : Int) (w : World) (hI : Ints w a n c xs) (hbin : Bin xs) :
    Calls Try.prog 21 #[.slice a n c, .int .i64 d] w fun e w' => e = .returned (.tuple #[.int .i64 (ct (fn xs) 0 n d).1, .int .i64 ((ct (fn xs) 0 n d).2.1 : Nat), .int .i64 (ct (fn xs) 0 n d).2.2]) ∧ w' = w := by
  have HI := hide hI
  have hmx : n ≤ 9223372036854775807 := by have := hI.le; have := hI.max; unfold maxLen at this; omega
  clear hI
  by_cases h1 : d < 0
  · rw [ct_bad (.inl h1)]
    go_enter Try.func21, Try.ntmps21
    go_wp2_with fail
    go_ret3
    exact ⟨rfl, rfl⟩
  · by_cases h2 : 64 < d
    · rw [ct_bad (.inr h2)]
      go_enter Try.func21, Try.ntmps21
      go_wp2_with fail
      go_ret3
      exact ⟨rfl, rfl⟩
    · obtain ⟨m, rfl⟩ := Int.eq_ofNat_of_zero_le (show 0 ≤ d by omega)
      obtain ⟨hk, hk1, hk2⟩ := lead_spec (fn xs) 0 (min m n)
      have HA := hide (ct_all (f := fn xs) (a := 0) (l := n) (show m ≤ 64 by omega))
      have HS := hide (ct_short (f := fn xs) (a := 0) (l := n) (show m ≤ 64 by omega))
      have HO := hide (ct_ok (f := fn xs) (a := 0) (l := n) (show m ≤ 64 by omega))
      have HK1 := hide hk1
      have HK2 := hide hk2
      clear hk1 hk2
      generalize hK : lead (fn xs) 0 (min m n) = K at *
      clear hK
      generalize hc : ct (fn xs) 0 n ↑m = C at *
      clear hc
      go_enter Try.func21, Try.ntmps21
      go_wp2_with fail
      go_loop [7] (fun i => ∃ j : Nat, j ≤ K ∧ i = .int .i64 (j : Nat)) (fun i => K + 1 - (intOf i).toNat)
      case atStart => exact ⟨0, Nat.zero_le _, rfl⟩
      case round =>
        obtain ⟨j, hj, rfl⟩ := hrel
        by_cases hlt : j < K
        · have hjm : j < m := by omega
          have hjL : j < n := by omega
          have hne : (xs.getD j 0 == 1) = true := by
            have h1 := HK1.out j hlt
            have h2 := bin_getD hbin j
            simp only [fn, Nat.zero_add] at h1
            have : xs.getD j 0 = 1 := by omega
            rw [this]; rfl
          obtain ⟨b, off, rfl, _, hc⟩ := HI.out.at (by omega)
          have c0 := hc j (by omega)
          clear hc
          generalize xs.getD j 0 = B at *
          go_wp2_with fail
          go_round
          case rel => exact ⟨j + 1, by omega, by go_num⟩
          case measure => simp [intOf]; omega
        · obtain rfl : j = K := by omega
          by_cases hjm : j < m
          · have hne1 : ((j : Int) == (m : Int)) = false := by simp; omega
            by_cases hjL : j < n
            · have HE := hide (HO.out (by omega) (by omega))
              have hjL' : ((j : Int) == (n : Int)) = false := by simp; omega
              have hz : (xs.getD j 0 == 1) = false := by
                have := HK2.out (by omega)
                simp only [fn, Nat.zero_add] at this
                rw [this]; rfl
              obtain ⟨b, off, rfl, _, hc⟩ := HI.out.at (by omega)
              have c0 := hc j (by omega)
              clear hc
              generalize xs.getD j 0 = B at *
              go_wp2_with fail
              go_ret3
              exact ⟨ret_three HE.out, rfl⟩
            · have hjn : j = n := by omega
              have HE := hide (HS.out (by omega) hjn)
              have hjL' : ((j : Int) == (n : Int)) = true := by simp; omega
              go_wp2_with fail
              go_ret3
              exact ⟨ret_three (y := 0) HE.out, rfl⟩
          · have hjm' : j = m := by omega
            have HE := hide (HA.out hjm')
            have hne1 : ((j : Int) == (m : Int)) = true := by simp; omega
            go_wp2_with fail
            go_ret3
            exact ⟨ret_three HE.out, rfl⟩

set_option maxHeartbeats 1000000 in
theorem refEnd_any (a : Option Addr) (n c : Nat) (xs : List Int) (w : World) (hI : Ints w a n c xs) :
    Calls Try.prog 28 #[.slice a n c] w fun e w' => e = .returned (.int .i64 (en (fn xs) 0 n)) ∧ w' = w := by
  have HI := hide hI
  have hmx : n ≤ 9223372036854775807 := by have := hI.le; have := hI.max; unfold maxLen at this; omega
  clear hI
  by_cases h8 : 8 ≤ n
  · have HE : Hid (en (fn xs) 0 n = 5) := hide (by unfold en; rw [if_pos h8])
    rw [HE.out]
    go_enter Try.func28, Try.ntmps28
    go_wp2_with fail
    go_ret
    exact ⟨rfl, rfl⟩
  · have HE : Hid (en (fn xs) 0 n = if ∀ i, i < n → fn xs (0 + i) = 0 then 0 else 3) := hide (by unfold en; rw [if_neg h8])
    generalize hE : en (fn xs) 0 n = E at *
    go_enter Try.func28, Try.ntmps28
    go_wp2_with fail
    go_loop [3] (fun i => ∃ j : Nat, j ≤ n ∧ i = .int .i64 (j : Nat) ∧ ∀ i, i < j → fn xs (0 + i) = 0) (fun i => n - (intOf i).toNat)
    case atStart => exact ⟨0, Nat.zero_le _, rfl, fun i hi => absurd hi (by omega)⟩
    case round =>
      obtain ⟨j, hj, rfl, hz⟩ := hrel
      have HZ := hide hz
      clear hz
      by_cases hlt : j < n
      · obtain ⟨b, off, rfl, _, hc⟩ := HI.out.at (by omega)
        have c0 := hc j (by omega)
        clear hc
        by_cases hb : xs.getD j 0 = 0
        · have HB : Hid (fn xs (0 + j) = 0) := hide (by rw [Nat.zero_add]; exact hb)
          have hb1 : (xs.getD j 0 != 0) = false := by simp; simpa [List.getD] using hb
          clear hb
          generalize xs.getD j 0 = B at *
          go_wp2_with fail
          go_round
          case rel => exact ⟨j + 1, by omega, by go_num, fun i hi => by
            by_cases hij : i = j
            · subst hij; exact HB.out
            · exact HZ.out i (by omega)⟩
          case measure => simp [intOf]; omega
        · have HN : Hid (¬ ∀ i, i < n → fn xs (0 + i) = 0) := hide (fun H => hb (by have := H j hlt; rw [Nat.zero_add] at this; exact this))
          have hb1 : (xs.getD j 0 != 0) = true := by simp; simpa [List.getD] using hb
          clear hb
          generalize xs.getD j 0 = B at *
          go_wp2_with fail
          go_ret
          exact ⟨ret_int (by rw [HE.out, if_neg HN.out]), rfl⟩
      · obtain rfl : j = n := by omega
        go_wp2_with fail
        go_ret
        exact ⟨ret_int (by rw [HE.out, if_pos HZ.out]), rfl⟩

end Go.Proofs.Ytkmhdkeneggceaa
