/-
  The walks of a writer's methods: a number, a run of ones, how many bits there are.
-/
import Derived.Test.YtkmhdkeneggceaaBit
namespace Go.Proofs.Ytkmhdkeneggceaa
open Go.RowKit Bt
set_option linter.unusedVariables false

theorem binw_succ {n : Int} {k j : Nat} (h : j < k) : (binw n k).take (j + 1) = (binw n k).take j ++ [n / 2 ^ (k - 1 - j) % 2] := by
  rw [List.take_succ_eq_append_getElem (by rw [binw_len]; exact h)]
  simp [binw]

theorem and_one_i64 (x : Int) : bits BinOp.and IntKind.i64 x 1 = x % 2 := by
  have h1 : (BitVec.ofInt 64 1).toNat = 2 ^ 1 - 1 := by decide
  have key : (BitVec.ofInt 64 x &&& BitVec.ofInt 64 1).toNat = (x % ((2 ^ 64 : Nat) : Int)).toNat % 2 ^ 1 := by
    rw [BitVec.toNat_and, BitVec.toNat_ofInt, h1, Nat.and_two_pow_sub_one_eq_mod]
  show IntKind.i64.wrap ((BitVec.ofInt 64 x &&& BitVec.ofInt 64 1).toNat : Nat) = x % 2
  rw [key, IntKind.wrap_i64]
  omega

set_option maxHeartbeats 2000000 in
theorem put_ok (base r : Nat) (v : Value) (bs : List Int) (n : Int) (k : Nat) (w : World) (hW : Wr base w r v bs) (hk : k ≤ 32) (h0 : 0 ≤ n) (h1 : n < 2 ^ k) (hlen : bs.length + 64 < 1125899906842624) :
    Calls Try.prog 29 #[.pointer (some ⟨r, 0, none⟩), .int .i64 n, .int .i64 (k : Nat)] w fun e w' => e = .returned (.int .i64 0) ∧ ∃ v', Wr base w' r v' (bs ++ binw n k) ∧ Goes w w' r v v' := by
  have HW := hide hW
  clear hW
  have hs : n / 2 ^ k = 0 := Int.ediv_eq_zero_of_lt h0 h1
  have hk0 : ¬ (k : Int) < 0 := by omega
  have hk1 : ¬ (32 : Int) < (k : Int) := by omega
  go_enter Try.func29, Try.ntmps29
  go_wp2_with fail
  go_loopw [25] (fun i wr => ∃ (j : Nat) (v' : Value), j ≤ k ∧ i = .int .i64 (j : Nat) ∧ Wr base wr r v' (bs ++ (binw n k).take j) ∧ Goes w wr r v v') (fun i _ => k - (intOf i).toNat)
  case atStart => exact ⟨0, v, Nat.zero_le _, rfl, by simpa using HW.out, Goes.refl ..⟩
  case round =>
    obtain ⟨j, v', hj, rfl, hWr, hG⟩ := hrel
    have HWr := hide hWr
    have HG := hide hG
    clear hWr hG
    by_cases hlt : j < k
    · go_wp2_with fail
      rw [and_one_i64]
      have hl : (bs ++ (binw n k).take j).length < 1125899906842624 := by simp [binw_len]; omega
      refine (bit_any base r v' _ (n / 2 ^ (k - 1 - j) % 2) wr HWr.out (by omega) (by omega) hl).mono ?_
      rintro e w1 ⟨rfl, v2, hW2, hG2⟩
      have HW2 := hide hW2
      have HG2 := hide hG2
      clear hW2 hG2
      go_wp2_with fail
      go_roundw
      case rel => exact ⟨j + 1, v2, by omega, by go_num, by rw [binw_succ hlt, ← List.append_assoc]; exact HW2.out, HG.out.trans HG2.out⟩
      case measure => simp [intOf]; omega
    · obtain rfl : j = k := by omega
      have HE := hide (List.take_of_length_le (l := binw n j) (i := j) (by rw [binw_len]; omega))
      go_wp2_with fail
      go_ret
      exact ⟨rfl, v', by rw [← HE.out]; exact HWr.out, HG.out⟩

theorem ge_pow {n : Int} {k : Nat} (h : n < 0 ∨ 2 ^ k ≤ n) : (n / 2 ^ k != 0) = true := by
  have hp : (0 : Int) < 2 ^ k := Int.pow_pos (by decide)
  have : n / 2 ^ k ≠ 0 := by
    rcases h with h | h
    · have := Int.ediv_neg_of_neg_of_pos h hp; omega
    · have := (Int.le_ediv_iff_mul_le (a := 1) hp).2 (by rw [Int.one_mul]; exact h); omega
  simpa using this

theorem put_bad (a : Option Addr) (n d : Int) (w : World) (h : a = none ∨ d < 0 ∨ 32 < d ∨ n < 0 ∨ 2 ^ d.toNat ≤ n) :
    Calls Try.prog 29 #[.pointer a, .int .i64 n, .int .i64 d] w fun e w' => e = .returned (.int .i64 1) ∧ w' = w := by
  cases a with
  | none =>
    go_enter Try.func29, Try.ntmps29
    go_wp2_with fail
    go_ret
    exact ⟨rfl, rfl⟩
  | some a =>
    by_cases h1 : d < 0
    · go_enter Try.func29, Try.ntmps29
      go_wp2_with fail
      go_ret
      exact ⟨rfl, rfl⟩
    · by_cases h2 : 32 < d
      · go_enter Try.func29, Try.ntmps29
        go_wp2_with fail
        go_ret
        exact ⟨rfl, rfl⟩
      · obtain ⟨k, rfl⟩ := Int.eq_ofNat_of_zero_le (show 0 ≤ d by omega)
        have h' : n < 0 ∨ 2 ^ k ≤ n := by
          rcases h with h | h | h | h
          · cases h
          · omega
          · omega
          · simpa using h
        have hne := ge_pow h'
        clear h'
        clear h
        go_enter Try.func29, Try.ntmps29
        go_wp2_with fail
        go_ret
        exact ⟨rfl, rfl⟩

theorem replicate_snoc (j : Nat) (x : Int) : List.replicate (j + 1) x = List.replicate j x ++ [x] := by
  rw [List.replicate_succ']

set_option maxHeartbeats 2000000 in
theorem ones_ok (base r : Nat) (v : Value) (bs : List Int) (n k : Nat) (w : World) (hW : Wr base w r v bs) (hk : k ≤ 64) (h1 : n ≤ k) (hlen : bs.length + 128 < 1125899906842624) :
    Calls Try.prog 30 #[.pointer (some ⟨r, 0, none⟩), .int .i64 (n : Nat), .int .i64 (k : Nat)] w fun e w' => e = .returned (.int .i64 0) ∧ ∃ v', Wr base w' r v' (bs ++ runs n k) ∧ Goes w w' r v v' := by
  have HW := hide hW
  clear hW
  have hk0 : ¬ (k : Int) < 0 := by omega
  have hk1 : ¬ (64 : Int) < (k : Int) := by omega
  have hn0 : ¬ (n : Int) < 0 := by omega
  have hn1 : ¬ (k : Int) < (n : Int) := by omega
  go_enter Try.func30, Try.ntmps30
  go_wp2_with fail
  go_loopw [27] (fun i wr => ∃ (j : Nat) (v' : Value), j ≤ n ∧ i = .int .i64 (j : Nat) ∧ Wr base wr r v' (bs ++ List.replicate j 1) ∧ Goes w wr r v v') (fun i _ => n - (intOf i).toNat)
  case atStart => exact ⟨0, v, Nat.zero_le _, rfl, by simpa using HW.out, Goes.refl ..⟩
  case round =>
    obtain ⟨j, v', hj, rfl, hWr, hG⟩ := hrel
    have HWr := hide hWr
    have HG := hide hG
    clear hWr hG
    by_cases hlt : j < n
    · go_wp2_with fail
      have hl : (bs ++ List.replicate j 1).length < 1125899906842624 := by simp; omega
      refine (bit_any base r v' _ 1 wr HWr.out (by omega) (by omega) hl).mono ?_
      rintro e w1 ⟨rfl, v2, hW2, hG2⟩
      have HW2 := hide hW2
      have HG2 := hide hG2
      clear hW2 hG2
      go_wp2_with fail
      go_roundw
      case rel => exact ⟨j + 1, v2, by omega, by go_num, by rw [replicate_snoc, ← List.append_assoc]; exact HW2.out, HG.out.trans HG2.out⟩
      case measure => simp [intOf]; omega
    · obtain rfl : j = n := by omega
      by_cases hm : j < k
      · go_wp2_with fail
        have hl : (bs ++ List.replicate j 1).length < 1125899906842624 := by simp; omega
        refine (bit_any base r v' _ 0 wr HWr.out (by omega) (by omega) hl).mono ?_
        rintro e w1 ⟨rfl, v2, hW2, hG2⟩
        have HW2 := hide hW2
        have HG2 := hide hG2
        clear hW2 hG2
        go_wp2_with fail
        go_ret
        exact ⟨rfl, v2, by unfold runs; rw [if_pos hm, ← List.append_assoc]; exact HW2.out, HG.out.trans HG2.out⟩
      · go_wp2_with fail
        go_ret
        exact ⟨rfl, v', by unfold runs; rw [if_neg hm, List.append_nil]; exact HWr.out, HG.out⟩

theorem ones_bad (a : Option Addr) (n d : Int) (w : World) (h : a = none ∨ d < 0 ∨ 64 < d ∨ n < 0 ∨ d < n) :
    Calls Try.prog 30 #[.pointer a, .int .i64 n, .int .i64 d] w fun e w' => e = .returned (.int .i64 1) ∧ w' = w := by
  cases a with
  | none =>
    go_enter Try.func30, Try.ntmps30
    go_wp2_with fail
    go_ret
    exact ⟨rfl, rfl⟩
  | some a =>
    by_cases h1 : d < 0
    · go_enter Try.func30, Try.ntmps30
      go_wp2_with fail
      go_ret
      exact ⟨rfl, rfl⟩
    · by_cases h2 : 64 < d
      · go_enter Try.func30, Try.ntmps30
        go_wp2_with fail
        go_ret
        exact ⟨rfl, rfl⟩
      · by_cases h3 : n < 0
        · go_enter Try.func30, Try.ntmps30
          go_wp2_with fail
          go_ret
          exact ⟨rfl, rfl⟩
        · have h4 : d < n := by
            rcases h with h | h | h | h | h
            · cases h
            · omega
            · omega
            · omega
            · exact h
          clear h
          go_enter Try.func30, Try.ntmps30
          go_wp2_with fail
          go_ret
          exact ⟨rfl, rfl⟩

theorem len_any (base r : Nat) (v : Value) (bs : List Int) (w : World) (hW : Wr base w r v bs) :
    Calls Try.prog 12 #[.pointer (some ⟨r, 0, none⟩)] w fun e w' => e = .returned (.int .i64 (bs.length : Nat)) ∧ w' = w := by
  have hc1 := two_cell1 hW.heap
  go_enter Try.func12, Try.ntmps12
  go_wp2_with fail
  go_ret
  exact ⟨rfl, rfl⟩
theorem len_nil (w : World) : Calls Try.prog 12 #[.pointer none] w fun e w' => e = .returned (.int .i64 0) ∧ w' = w := by
  go_enter Try.func12, Try.ntmps12
  go_wp2_with fail
  go_ret
  exact ⟨rfl, rfl⟩

theorem new_any (base : Nat) (w : World) (hb : base ≤ w.heap.size) :
    Calls Try.prog 8 #[] w fun e w' => e = .returned (.pointer (some ⟨w.heap.size, 0, none⟩)) ∧ Wr base w' w.heap.size (.slice none 0 0) [] ∧ Below w.heap.size w w' := by
  go_enter Try.func8, Try.ntmps8
  go_wp2_with fail
  go_ret
  refine ⟨rfl, ⟨heap_alloc_new w _, ⟨rfl, .inl ⟨rfl, rfl⟩⟩, hb, fun b h => by cases h⟩, (Below.refl _ _).alloc (Nat.le_refl _) _⟩

end Go.Proofs.Ytkmhdkeneggceaa
