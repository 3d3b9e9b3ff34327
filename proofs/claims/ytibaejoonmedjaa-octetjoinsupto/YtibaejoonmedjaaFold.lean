/-
  The walks of octet.fold, octet.unfold and damaskref01.zigzag: numbers of either sign and numbers from 0 on.
-/
import Derived.Test.YtibaejoonmedjaaVarint
import Derived.Laws.BitsAllLaws
import Derived.Laws.DeepNot64
import Derived.Laws.Bits64
namespace Go.Proofs.Ytibaejoonmedjaa
open Go.RowKit Oct
set_option linter.unusedVariables false

theorem u64_not (a : Nat) (ha : a < 18446744073709551616) : bits .xor .u64 IntKind.u64.max (a : Int) = 18446744073709551615 - (a : Int) := by
  show IntKind.u64.wrap ((BitVec.ofInt 64 IntKind.u64.max ^^^ BitVec.ofInt 64 (a : Int)).toNat : Int) = _
  have h1 : BitVec.ofInt 64 IntKind.u64.max = BitVec.allOnes 64 := by decide
  rw [h1, BitVec.allOnes_xor, BitVec.toNat_not, ofInt_u64 a (by omega)]
  simp [IntKind.wrap, IntKind.bits, IntKind.signed]
  omega

theorem fold_neg (n : Int) (hn : n < 0) (h0 : -9223372036854775808 ≤ n) : bits BinOp.xor IntKind.u64 IntKind.u64.max (IntKind.u64.wrap (IntKind.u64.wrap n * 2)) = zz n := by
  have e : IntKind.u64.wrap (IntKind.u64.wrap n * 2) = n * 2 + 18446744073709551616 := by
    rw [IntKind.wrap_u64, IntKind.wrap_u64]; omega
  rw [e]
  obtain ⟨a, ha⟩ := Int.eq_ofNat_of_zero_le (show 0 ≤ n * 2 + 18446744073709551616 by omega)
  rw [ha, u64_not a (by omega)]
  unfold zz; rw [if_pos hn]; omega

theorem unfold_odd (x : Int) (h0 : 0 ≤ x) (h1 : x < 18446744073709551616) (h : (bits BinOp.and IntKind.u64 x 1 == 1) = true) : bits BinOp.xor IntKind.i64 (-1) (x / 2) = uz x := by
  rw [and_one_u64 x h0 (by omega)] at h
  have h2 : x % 2 = 1 := by simpa using h
  obtain ⟨a, ha⟩ := Int.eq_ofNat_of_zero_le (show 0 ≤ x / 2 by omega)
  rw [ha, i64_not a (by omega)]
  unfold uz; rw [if_pos h2]; omega
theorem unfold_even (x : Int) (h0 : 0 ≤ x) (h1 : x < 18446744073709551616) (h : (bits BinOp.and IntKind.u64 x 1 == 1) = false) : x / 2 = uz x := by
  rw [and_one_u64 x h0 (by omega)] at h
  have h2 : ¬ x % 2 = 1 := by simpa using h
  unfold uz; rw [if_neg h2]

theorem ret_int {k : IntKind} {a b : Int} (h : a = b) : Ending.returned (.int k a) = .returned (.int k b) := by rw [h]

set_option maxHeartbeats 400000 in
theorem fold_any (n : Int) (w : World) (h0 : -9223372036854775808 ≤ n) (h1 : n ≤ 9223372036854775807) :
    Calls Try.prog 29 #[.int .i64 n] w fun e w' => e = .returned (.int .u64 (zz n)) ∧ w' = w := by
  by_cases hn : n < 0
  · go_enter Try.func29, Try.ntmps29
    go_wp2
    go_ret
    exact ⟨ret_int (fold_neg n hn h0), rfl⟩
  · have e : n * 2 = zz n := by unfold zz; rw [if_neg hn]; omega
    have E : Hid (n * 2 = zz n) := e
    clear e
    go_enter Try.func29, Try.ntmps29
    go_wp2
    go_ret
    exact ⟨ret_int E.out, rfl⟩

set_option maxHeartbeats 400000 in
theorem unfold_any (x : Int) (w : World) (h0 : 0 ≤ x) (h1 : x < 18446744073709551616) :
    Calls Try.prog 34 #[.int .u64 x] w fun e w' => e = .returned (.int .i64 (uz x)) ∧ w' = w := by
  go_enter Try.func34, Try.ntmps34
  go_wp2
  · go_ret
    exact ⟨ret_int (unfold_odd x h0 h1 (by assumption)), rfl⟩
  · go_ret
    exact ⟨ret_int (unfold_even x h0 h1 (by assumption)), rfl⟩

set_option maxHeartbeats 400000 in
theorem zigzag_any (n : Int) (w : World) (h0 : -9223372036854775808 ≤ n) (h1 : n ≤ 9223372036854775807) :
    Calls Try.prog 30 #[.int .i64 n] w fun e w' => e = .returned (.int .u64 (zz n)) ∧ w' = w := by
  by_cases hn : n < 0
  · have e : 2 * -(n + 1) + 1 = zz n := by unfold zz; rw [if_pos hn]; omega
    have E : Hid (2 * -(n + 1) + 1 = zz n) := e
    clear e
    go_enter Try.func30, Try.ntmps30
    go_wp2
    go_ret
    exact ⟨ret_int E.out, rfl⟩
  · have e : 2 * n = zz n := by unfold zz; rw [if_neg hn]
    have E : Hid (2 * n = zz n) := e
    clear e
    go_enter Try.func30, Try.ntmps30
    go_wp2
    go_ret
    exact ⟨ret_int E.out, rfl⟩

set_option maxHeartbeats 400000 in
/-- octet.Int. -/
theorem int_any (n : Int) (w : World) (h0 : -9223372036854775808 ≤ n) (h1 : n ≤ 9223372036854775807) :
    Calls Try.prog 13 #[.int .i64 n] w fun e w' => ∃ v, e = .returned v ∧ w'.ownsRow w.heap.size 5 1 v (vint (zz n)).length (u8s (vint (zz n))) ∧ Below w.heap.size w w' := by
  obtain ⟨hz1, hz2⟩ := zz_range n h0 h1
  go_enter Try.func13, Try.ntmps13
  go_wp2_with (first
    | (go_at_call 29; refine (fold_any n _ h0 h1).mono ?_; rintro e w' ⟨rfl, rfl⟩)
    | (go_at_call 27; refine (varint_any (zz n) _ hz1 hz2).mono ?_; rintro e w' ⟨v, rfl, hown, hbel⟩))
  go_ret
  exact ⟨_, rfl, hown, hbel⟩

set_option maxHeartbeats 400000 in
/-- octet.Uint, a number from 0 on. -/
theorem uint_any (n : Int) (w : World) (h0 : 0 ≤ n) (h1 : n ≤ 9223372036854775807) :
    Calls Try.prog 9 #[.int .i64 n] w fun e w' => ∃ v, e = .returned (.tuple #[v, .int .i64 0]) ∧ w'.ownsRow w.heap.size 5 1 v (vint n).length (u8s (vint n)) ∧ Below w.heap.size w w' := by
  go_enter Try.func9, Try.ntmps9
  go_wp2_with (go_at_call 27; refine (varint_any n _ h0 (by omega)).mono ?_; rintro e w' ⟨v, rfl, hown, hbel⟩)
  go_ret2
  exact ⟨_, rfl, hown, hbel⟩

set_option maxHeartbeats 400000 in
/-- octet.Uint below 0. -/
theorem uint_neg (n : Int) (w : World) (h0 : n < 0) :
    Calls Try.prog 9 #[.int .i64 n] w fun e w' => e = .returned (.tuple #[.slice none 0 0, .int .i64 1]) ∧ w' = w := by
  go_enter Try.func9, Try.ntmps9
  go_wp2_with fail
  go_ret2
  exact ⟨rfl, rfl⟩

end Go.Proofs.Ytibaejoonmedjaa
