/-
  The walk of octet.scan: the number whose varint stands at the beginning, how many bytes it has, the error.
-/
import Derived.Test.YtibaejoonmedjaaNew
namespace Go.Proofs.Ytibaejoonmedjaa
open Go.RowKit Oct
set_option linter.unusedVariables false

theorem join_bits (k : Nat) (X c : Int) (hX0 : 0 ≤ X) (hX1 : X < pw k) (hc0 : 0 ≤ c) (hk : k ≤ 8 ∨ k ≤ 9 ∧ c ≤ 1) :
    bits BinOp.or IntKind.u64 X (IntKind.u64.wrap (c % 128 * 2 ^ (7 * k))) = X + c % 128 * pw k ∧ X + c % 128 * pw k < 128 * pw k ∧ X + c % 128 * pw k < 18446744073709551616 := by
  have hp := pw_pos k
  have hd : 0 ≤ c % 128 ∧ c % 128 ≤ 127 := by omega
  have hy0 : 0 ≤ c % 128 * pw k := Int.mul_nonneg hd.1 (by omega)
  have hy1 : c % 128 * pw k ≤ 127 * pw k := Int.mul_le_mul_of_nonneg_right hd.2 (by omega)
  have hlt : X + c % 128 * pw k < 18446744073709551616 := by
    rcases hk with hk | ⟨hk, hc⟩
    · have := pw_le8 hk; omega
    · have h1 := pw_le9 hk
      have h2 : c % 128 * pw k ≤ 1 * pw k := Int.mul_le_mul_of_nonneg_right (by omega) (by omega)
      omega
  refine ⟨?_, by omega, hlt⟩
  rw [← pw_pow, IntKind.wrap_u64, Int.emod_eq_of_lt hy0 (by omega), u64_or X _ hX0 (by omega) hy0 (by omega)]
  obtain ⟨x, rfl⟩ := Int.eq_ofNat_of_zero_le hX0
  obtain ⟨d, hdd⟩ := Int.eq_ofNat_of_zero_le hd.1
  have e : (c % 128 * pw k) = ((d * 2 ^ (7 * k) : Nat) : Int) := by rw [hdd, pw_pow]; simp
  rw [e, Int.toNat_natCast, Int.toNat_natCast, Nat.or_comm, nat_join (7 * k) _ _ (Nat.mul_mod_left _ _) (by
    have := hX1; rw [pw_pow] at this; exact_mod_cast this)]
  omega

theorem ret3 {a a' b b' c c' : Int} (h : (a, b, c) = (a', b', c')) : Ending.returned (.tuple #[.int .u64 a, .int .i64 b, .int .i64 c]) = .returned (.tuple #[.int .u64 a', .int .i64 b', .int .i64 c']) := by
  simp only [Prod.mk.injEq] at h
  obtain ⟨rfl, rfl, rfl⟩ := h
  rfl

set_option maxHeartbeats 1000000 in
theorem scan_any (a : Option Addr) (n cap : Nat) (zs : List Int) (w : World) (hb : Bytes w a n cap zs) :
    Calls Try.prog 33 #[.slice a n cap] w fun e w' => e = .returned (.tuple #[.int .u64 (scan zs).1, .int .i64 (scan zs).2.1, .int .i64 (scan zs).2.2]) ∧ w' = w := by
  have hmx : n ≤ 9223372036854775807 := by have := hb.le; have := hb.max; unfold maxLen at this; omega
  have HL : Hid (zs.length = n) := hb.len
  go_enter Try.func33, Try.ntmps33
  go_wp2_with fail
  go_loop [2, 9] (fun x i => ∃ (k : Nat) (X : Int), k ≤ n ∧ k ≤ 9 ∧ i = .int .i64 k ∧ x = .int .u64 X ∧ 0 ≤ X ∧ X < pw k ∧ scan zs = scn k X (pw k) (zs.drop k)) (fun _ i => n - (intOf i).toNat)
  case atStart => exact ⟨0, 0, Nat.zero_le _, by omega, rfl, rfl, by omega, by simp [pw], rfl⟩
  case round =>
    obtain ⟨k, X, hk, hk9, rfl, rfl, hX0, hX1, hs⟩ := hrel
    have HS : Hid (scan zs = scn k X (pw k) (zs.drop k)) := hs
    have HX : Hid (X < pw k) := hX1
    clear hs hX1
    have hpw : X ≤ 18446744073709551615 := by have := HX.out; have := pw_le9 hk9; omega
    by_cases hlt : k < n
    · obtain ⟨b, off, rfl, _, hc⟩ := hb.at (by omega)
      have g := hc k hlt
      have hby := getD_byte hb.byte k
      have HD : Hid (zs.drop k = zs.getD k 0 :: zs.drop (k + 1)) := drop_cons (by rw [HL.out]; exact hlt)
      generalize zs.getD k 0 = c at *
      clear hc
      obtain ⟨hc0, hc1⟩ := hby
      by_cases hbad : k = 9 ∧ 1 < c
      · obtain ⟨h9, h1c⟩ := hbad
        have h9' : ((k : Int) == 9) = true := by simp; omega
        have HF : Hid (scan zs = (0, 0, 3)) := by show _ = _; rw [HS.out, HD.out, scn, if_pos ⟨h9, h1c⟩]
        have H9 : Hid (k = 9) := h9
        clear h9
        go_wp2_with fail
        go_ret3
        rw [HF.out]
        exact ⟨rfl, rfl⟩
      · have hkc : k ≤ 8 ∨ k ≤ 9 ∧ c ≤ 1 := by omega
        obtain ⟨hj1, hj2, hj3⟩ := join_bits k X c hX0 HX.out hc0 hkc
        have HJ : Hid (bits BinOp.or IntKind.u64 X (IntKind.u64.wrap (c % 128 * 2 ^ (7 * k))) = X + c % 128 * pw k) := hj1
        have HP : Hid (X + c % 128 * pw k < 128 * pw k) := hj2
        clear hj1 hj2 hj3
        have hpos : 0 ≤ X + c % 128 * pw k := by have := pw_pos k; have : 0 ≤ c % 128 * pw k := Int.mul_nonneg (by omega) (by omega); omega
        have HB : Hid (¬ (k = 9 ∧ 1 < c)) := hbad
        by_cases h128 : 128 ≤ c
        · have h9' : ((k : Int) == 9) = false := by simp; omega
          have HF : Hid (scan zs = scn (k + 1) (X + c % 128 * pw k) (pw (k + 1)) (zs.drop (k + 1))) := by show _ = _; rw [HS.out, HD.out, scn, if_neg hbad, if_pos h128]; rfl
          clear hbad
          go_wp2_with fail
          go_round
          case rel => exact ⟨k + 1, X + c % 128 * pw k, by omega, by omega, by go_num, congrArg (Value.int .u64) HJ.out, hpos, HP.out, HF.out⟩
          case measure => simp [intOf]; omega
        · by_cases hz : c = 0 ∧ 0 < k
          · obtain ⟨hz0, hzk⟩ := hz
            have hz0' : (c == 0) = true := by simpa using hz0
            have HF : Hid (scan zs = (0, 0, 3)) := by show _ = _; rw [HS.out, HD.out, scn, if_neg hbad, if_neg h128, if_pos ⟨hz0, hzk⟩]
            have hc1' : ¬ 1 < c := by omega
            clear hbad hz0
            by_cases h9 : k = 9
            · have h9' : ((k : Int) == 9) = true := by simp; omega
              clear h9
              go_wp2_with fail
              go_ret3
              rw [HF.out]
              exact ⟨rfl, rfl⟩
            · have h9' : ((k : Int) == 9) = false := by simp; omega
              go_wp2_with fail
              go_ret3
              rw [HF.out]
              exact ⟨rfl, rfl⟩
          · have HF : Hid (scan zs = (X + c % 128 * pw k, (k : Int) + 1, 0)) := by show _ = _; rw [HS.out, HD.out, scn, if_neg hbad, if_neg h128, if_neg hz]
            by_cases hz0 : c = 0
            · have hk0 : k = 0 := by omega
              have hz0' : (c == 0) = true := by simpa using hz0
              have h9' : ((k : Int) == 9) = false := by simp; omega
              have hk0' : ¬ (0 : Int) < (k : Int) := by omega
              clear hbad hz hz0 hk0
              go_wp2_with fail
              go_ret3
              rw [HF.out]
              exact ⟨ret3 (by rw [HJ.out]), rfl⟩
            · have hz0' : (c == 0) = false := by simpa using hz0
              clear hbad hz hz0
              by_cases h9 : k = 9
              · have h9' : ((k : Int) == 9) = true := by simp; omega
                have hc1' : ¬ 1 < c := by have := HB.out; omega
                clear h9
                go_wp2_with fail
                go_ret3
                rw [HF.out]
                exact ⟨ret3 (by rw [HJ.out]), rfl⟩
              · have h9' : ((k : Int) == 9) = false := by simp; omega
                go_wp2_with fail
                go_ret3
                rw [HF.out]
                exact ⟨ret3 (by rw [HJ.out]), rfl⟩
    · have HF : Hid (scan zs = (0, 0, 2)) := by
        show _ = _
        rw [HS.out, List.drop_eq_nil_of_le (by rw [HL.out]; omega)]; rfl
      go_wp2_with fail
      go_ret3
      rw [HF.out]
      exact ⟨rfl, rfl⟩

end Go.Proofs.Ytibaejoonmedjaa
