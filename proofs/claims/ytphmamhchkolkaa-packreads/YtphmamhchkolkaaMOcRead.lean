/-
  The walks of damaskref01.Read, ReadUint and ReadInt: the document's reading of a varint is what octet.scan comes to.
-/
import Derived.Test.YtphmamhchkolkaaMOcZ
import Derived.Test.YtphmamhchkolkaaMOcPure3
namespace Go.Proofs.Ytphmamhchkolkaa.Ocm
open Go.RowKit Oct
set_option linter.unusedVariables false

theorem getD_take {zs : List Int} {i m : Nat} (h : i < m) : (zs.take m).getD i 0 = zs.getD i 0 := by simp [List.getD, h]

theorem ret3i {a a' b b' c c' : Int} (h : (a, b, c) = (a', b', c')) : Ending.returned (.tuple #[.int .u64 a, .int .i64 b, .int .i64 c]) = .returned (.tuple #[.int .u64 a', .int .i64 b', .int .i64 c']) := ret3 h

set_option maxRecDepth 100000 in
set_option maxHeartbeats 2000000 in
theorem read_any (a : Option Addr) (n cap : Nat) (zs : List Int) (w : World) (hb : Bytes w a n cap zs) :
    Calls Try.prog 71 #[.slice a n cap] w fun e w' => e = .returned (.tuple #[.int .u64 (scan zs).1, .int .i64 (scan zs).2.1, .int .i64 (scan zs).2.2]) ∧ w' = w := by
  have hmx : n ≤ 9223372036854775807 := by have := hb.le; have := hb.max; unfold maxLen at this; omega
  have HL : Hid (zs.length = n) := hb.len
  have HBy : Hid (∀ z ∈ zs, 0 ≤ z ∧ z ≤ 255) := hb.byte
  go_enter Try.func71, Try.ntmps71
  go_wp2_with fail
  go_loop [5] (fun i => ∃ k : Nat, k ≤ n ∧ k ≤ 9 ∧ i = .int .i64 k ∧ ∀ j, j < k → 128 ≤ zs.getD j 0) (fun i => n - (intOf i).toNat)
  case atStart => exact ⟨0, Nat.zero_le _, by omega, rfl, fun j hj => by omega⟩
  case round =>
    obtain ⟨k, hk, hk9, rfl, hall⟩ := hrel
    have HA : Hid (∀ j, j < k → 128 ≤ zs.getD j 0) := hall
    clear hall
    by_cases hlt : k < n
    · obtain ⟨b, off, rfl, _, hc⟩ := hb.at (by omega)
      have g := hc k hlt
      have HC : Hid (∀ i, i < n → w.cell? ⟨b, off + i, none⟩ = some (.int .u8 (zs.getD i 0))) := hc
      have hby := getD_byte hb.byte k
      have HE : Hid (∃ c, zs.getD k 0 = c) := ⟨_, rfl⟩
      generalize ec : zs.getD k 0 = c at g hby
      have EC : Hid (zs.getD k 0 = c) := ec
      clear hc ec HE
      obtain ⟨hc0, hc1⟩ := hby
      have hkl : k < zs.length := by rw [HL.out]; exact hlt
      have HKL : Hid (k < zs.length) := hkl
      clear hkl
      by_cases hgo : 128 ≤ c ∧ k < 9
      · obtain ⟨h128, h9⟩ := hgo
        have h9i : (k : Int) < 9 := by omega
        go_wp2_with fail
        go_round
        case rel => exact ⟨k + 1, by omega, by omega, by go_num, fun j hj => by
          by_cases e : j = k
          · subst e; rw [EC.out]; exact h128
          · exact HA.out j (by omega)⟩
        case measure => simp [intOf]; omega
      · have hkn : ((k : Int) == (n : Int)) = false := by simp; omega
        by_cases hbad : k = 9 ∧ 1 < c
        · obtain ⟨h9, h1c⟩ := hbad
          have HF : Hid (scan zs = (0, 0, 3)) := read_form zs k hk9 HKL.out HA.out (.inl ⟨h9, by rw [EC.out]; exact h1c⟩)
          subst h9
          clear hgo
          by_cases h128 : 128 ≤ c
          · go_wp2_with fail
            go_ret3
            rw [HF.out]
            exact ⟨rfl, rfl⟩
          · go_wp2_with fail
            go_ret3
            rw [HF.out]
            exact ⟨rfl, rfl⟩
        · have h128 : ¬ 128 ≤ c := by omega
          by_cases hz : 0 < k ∧ c = 0
          · obtain ⟨hk0, hc00⟩ := hz
            have HF : Hid (scan zs = (0, 0, 3)) := read_form zs k hk9 HKL.out HA.out (.inr ⟨hk0, by rw [EC.out]; exact hc00⟩)
            have hz0' : (c == 0) = true := by simpa using hc00
            have hc1' : ¬ 1 < c := by omega
            have hk0i : (0 : Int) < (k : Int) := by omega
            clear hgo hbad hc00
            by_cases h9 : k = 9
            · subst h9
              go_wp2_with fail
              go_ret3
              rw [HF.out]
              exact ⟨rfl, rfl⟩
            · have h9' : ((k : Int) == 9) = false := by simp; omega
              go_wp2_with fail
              go_ret3
              rw [HF.out]
              exact ⟨rfl, rfl⟩
          · have HF : Hid (scan zs = (lev (zs.take (k + 1)), (k : Int) + 1, 0)) := read_ok zs k hk9 HKL.out HA.out (by rw [EC.out]; exact hbad) (by rw [EC.out]; exact hz) (by rw [EC.out]; omega)
            have HX : Hid (lev (zs.take (k + 1)) < 18446744073709551616) := (scan_ok zs _ _ HBy.out HF.out).2.1
            by_cases h9 : k = 9
            · have hc1' : ¬ 1 < c := by omega
              have hz0' : (c == 0) = false := by simp; omega
              subst h9
              clear hgo hbad hz
              go_wp2_with fail
              go_loop [6, 7] (fun x i => ∃ q : Int, -1 ≤ q ∧ q ≤ 9 ∧ i = .int .i64 q ∧ x = .int .u64 (lev ((zs.take (9 + 1)).drop (q + 1).toNat))) (fun _ i => (intOf i + 1).toNat)
              case atStart =>
                refine ⟨9, by omega, by omega, rfl, ?_⟩
                rw [List.drop_eq_nil_of_le (by rw [List.length_take]; omega)]; rfl
              case round =>
                obtain ⟨q, hq0, hq1, rfl, rfl⟩ := hrel
                by_cases hq : 0 ≤ q
                · obtain ⟨t, rfl⟩ := Int.eq_ofNat_of_zero_le hq
                  have et : ((t : Int) + 1).toNat = t + 1 := by omega
                  have htn : t < n := by omega
                  have g2 := HC.out t htn
                  have hby2 := getD_byte HBy.out t
                  have hstep : lev ((zs.take (9 + 1)).drop t) = zs.getD t 0 % 128 + 128 * lev ((zs.take (9 + 1)).drop (t + 1)) := by
                    rw [lev_step (by rw [List.length_take, HL.out]; omega), getD_take (by omega)]
                  have hle := lev_drop_le (zs.take (9 + 1)) t
                  have hXlt := HX.out
                  rw [et]
                  have hx0 := lev_nonneg ((zs.take (9 + 1)).drop (t + 1))
                  generalize zs.getD t 0 = d at *
                  have HST : Hid (lev ((zs.take (9 + 1)).drop t) = d % 128 + 128 * lev ((zs.take (9 + 1)).drop (t + 1))) := hstep
                  generalize lev ((zs.take (9 + 1)).drop (t + 1)) = X at *
                  obtain ⟨hd0, hd1⟩ := hby2
                  have hXb : 128 * X + d % 128 < 18446744073709551616 := by omega
                  clear hstep hle hXlt et
                  go_wp2_with fail
                  go_round
                  case rel => exact ⟨(t : Int) - 1, by omega, by omega, rfl, congrArg (Value.int .u64) (by rw [show ((t : Int) - 1 + 1).toNat = t by omega, HST.out]; omega)⟩
                  case measure => simp [intOf]
                · have hqm : q = -1 := by omega
                  subst hqm
                  have e0 : lev ((zs.take (9 + 1)).drop ((-1 : Int) + 1).toNat) = lev (zs.take (9 + 1)) := rfl
                  rw [e0]
                  clear e0
                  go_wp2_with fail
                  go_ret3
                  rw [HF.out]
                  exact ⟨rfl, rfl⟩
            · have h9' : ((k : Int) == 9) = false := by simp; omega
              by_cases hk0 : 0 < k
              · have hz0' : (c == 0) = false := by simp; omega
                have hk0i : (0 : Int) < (k : Int) := by omega
                clear hgo hbad hz
                go_wp2_with fail
                go_loop [6, 7] (fun x i => ∃ q : Int, -1 ≤ q ∧ q ≤ k ∧ i = .int .i64 q ∧ x = .int .u64 (lev ((zs.take (k + 1)).drop (q + 1).toNat))) (fun _ i => (intOf i + 1).toNat)
                case atStart =>
                  refine ⟨k, by omega, by omega, rfl, ?_⟩
                  rw [List.drop_eq_nil_of_le (by rw [List.length_take]; omega)]; rfl
                case round =>
                  obtain ⟨q, hq0, hq1, rfl, rfl⟩ := hrel
                  by_cases hq : 0 ≤ q
                  · obtain ⟨t, rfl⟩ := Int.eq_ofNat_of_zero_le hq
                    have et : ((t : Int) + 1).toNat = t + 1 := by omega
                    have htn : t < n := by omega
                    have g2 := HC.out t htn
                    have hby2 := getD_byte HBy.out t
                    have hstep : lev ((zs.take (k + 1)).drop t) = zs.getD t 0 % 128 + 128 * lev ((zs.take (k + 1)).drop (t + 1)) := by
                      rw [lev_step (by rw [List.length_take, HL.out]; omega), getD_take (by omega)]
                    have hle := lev_drop_le (zs.take (k + 1)) t
                    have hXlt := HX.out
                    rw [et]
                    have hx0 := lev_nonneg ((zs.take (k + 1)).drop (t + 1))
                    generalize zs.getD t 0 = d at *
                    have HST : Hid (lev ((zs.take (k + 1)).drop t) = d % 128 + 128 * lev ((zs.take (k + 1)).drop (t + 1))) := hstep
                    generalize lev ((zs.take (k + 1)).drop (t + 1)) = X at *
                    obtain ⟨hd0, hd1⟩ := hby2
                    have hXb : 128 * X + d % 128 < 18446744073709551616 := by omega
                    clear hstep hle hXlt et
                    go_wp2_with fail
                    go_round
                    case rel => exact ⟨(t : Int) - 1, by omega, by omega, rfl, congrArg (Value.int .u64) (by rw [show ((t : Int) - 1 + 1).toNat = t by omega, HST.out]; omega)⟩
                    case measure => simp [intOf]
                  · have hqm : q = -1 := by omega
                    subst hqm
                    have e0 : lev ((zs.take (k + 1)).drop ((-1 : Int) + 1).toNat) = lev (zs.take (k + 1)) := rfl
                    rw [e0]
                    clear e0
                    go_wp2_with fail
                    go_ret3
                    rw [HF.out]
                    exact ⟨rfl, rfl⟩
              · have hk0i : ¬ (0 : Int) < (k : Int) := by omega
                clear hgo hbad hz
                go_wp2_with fail
                go_loop [6, 7] (fun x i => ∃ q : Int, -1 ≤ q ∧ q ≤ k ∧ i = .int .i64 q ∧ x = .int .u64 (lev ((zs.take (k + 1)).drop (q + 1).toNat))) (fun _ i => (intOf i + 1).toNat)
                case atStart =>
                  refine ⟨k, by omega, by omega, rfl, ?_⟩
                  rw [List.drop_eq_nil_of_le (by rw [List.length_take]; omega)]; rfl
                case round =>
                  obtain ⟨q, hq0, hq1, rfl, rfl⟩ := hrel
                  by_cases hq : 0 ≤ q
                  · obtain ⟨t, rfl⟩ := Int.eq_ofNat_of_zero_le hq
                    have et : ((t : Int) + 1).toNat = t + 1 := by omega
                    have htn : t < n := by omega
                    have g2 := HC.out t htn
                    have hby2 := getD_byte HBy.out t
                    have hstep : lev ((zs.take (k + 1)).drop t) = zs.getD t 0 % 128 + 128 * lev ((zs.take (k + 1)).drop (t + 1)) := by
                      rw [lev_step (by rw [List.length_take, HL.out]; omega), getD_take (by omega)]
                    have hle := lev_drop_le (zs.take (k + 1)) t
                    have hXlt := HX.out
                    rw [et]
                    have hx0 := lev_nonneg ((zs.take (k + 1)).drop (t + 1))
                    generalize zs.getD t 0 = d at *
                    have HST : Hid (lev ((zs.take (k + 1)).drop t) = d % 128 + 128 * lev ((zs.take (k + 1)).drop (t + 1))) := hstep
                    generalize lev ((zs.take (k + 1)).drop (t + 1)) = X at *
                    obtain ⟨hd0, hd1⟩ := hby2
                    have hXb : 128 * X + d % 128 < 18446744073709551616 := by omega
                    clear hstep hle hXlt et
                    go_wp2_with fail
                    go_round
                    case rel => exact ⟨(t : Int) - 1, by omega, by omega, rfl, congrArg (Value.int .u64) (by rw [show ((t : Int) - 1 + 1).toNat = t by omega, HST.out]; omega)⟩
                    case measure => simp [intOf]
                  · have hqm : q = -1 := by omega
                    subst hqm
                    have e0 : lev ((zs.take (k + 1)).drop ((-1 : Int) + 1).toNat) = lev (zs.take (k + 1)) := rfl
                    rw [e0]
                    clear e0
                    go_wp2_with fail
                    go_ret3
                    rw [HF.out]
                    exact ⟨rfl, rfl⟩
    · have HF : Hid (scan zs = (0, 0, 2)) := read_short zs k hk9 (by rw [HL.out]; omega) HA.out
      have hkn : ((k : Int) == (n : Int)) = true := by simp; omega
      go_wp2_with fail
      go_ret3
      rw [HF.out]
      exact ⟨rfl, rfl⟩

set_option maxRecDepth 100000 in
set_option maxHeartbeats 1000000 in
theorem readUint_any (a : Option Addr) (n cap : Nat) (zs : List Int) (w : World) (hb : Bytes w a n cap zs) :
    Calls Try.prog 60 #[.slice a n cap] w fun e w' => e = .returned (.tuple #[.int .i64 (rdU zs).1, .int .i64 ((rdU zs).2.1 : Nat), .int .i64 (rdU zs).2.2]) ∧ w' = w := by
  have HB : Hid (Bytes w a n cap zs) := hb
  rcases scan_cases zs hb.byte with ⟨X, hs, hX0, hX1, hvl, htk⟩ | hs | hs
  · generalize (vint X).length = m at *
    have HS : Hid (scan zs = (X, (m : Int), 0)) := hs
    clear hs htk hvl hb
    by_cases hbig : 9223372036854775807 < X
    · have HF : Hid (rdU zs = (0, 0, 3)) := rdU_big HS.out hbig
      go_enter Try.func60, Try.ntmps60
      go_wp2_with (go_at_call 71; refine (read_any _ _ _ zs _ HB.out).mono ?_; rw [HS.out]; rintro e w' ⟨rfl, rfl⟩)
      go_ret3
      rw [HF.out]
      exact ⟨rfl, rfl⟩
    · have HF : Hid (rdU zs = (X, m, 0)) := rdU_ok HS.out hbig
      go_enter Try.func60, Try.ntmps60
      go_wp2_with (go_at_call 71; refine (read_any _ _ _ zs _ HB.out).mono ?_; rw [HS.out]; rintro e w' ⟨rfl, rfl⟩)
      go_ret3
      rw [HF.out]
      exact ⟨rfl, rfl⟩
  · have HF : Hid (rdU zs = (0, 0, 2)) := rdU_err hs (by decide)
    have HS : Hid (scan zs = (0, 0, 2)) := hs
    clear hs hb
    go_enter Try.func60, Try.ntmps60
    go_wp2_with (go_at_call 71; refine (read_any _ _ _ zs _ HB.out).mono ?_; rw [HS.out]; rintro e w' ⟨rfl, rfl⟩)
    go_ret3
    rw [HF.out]
    exact ⟨rfl, rfl⟩
  · have HF : Hid (rdU zs = (0, 0, 3)) := rdU_err hs (by decide)
    have HS : Hid (scan zs = (0, 0, 3)) := hs
    clear hs hb
    go_enter Try.func60, Try.ntmps60
    go_wp2_with (go_at_call 71; refine (read_any _ _ _ zs _ HB.out).mono ?_; rw [HS.out]; rintro e w' ⟨rfl, rfl⟩)
    go_ret3
    rw [HF.out]
    exact ⟨rfl, rfl⟩

set_option maxRecDepth 100000 in
set_option maxHeartbeats 1000000 in
theorem readInt_any (a : Option Addr) (n cap : Nat) (zs : List Int) (w : World) (hb : Bytes w a n cap zs) :
    Calls Try.prog 61 #[.slice a n cap] w fun e w' => e = .returned (.tuple #[.int .i64 (rdI zs).1, .int .i64 ((rdI zs).2.1 : Nat), .int .i64 (rdI zs).2.2]) ∧ w' = w := by
  have HB : Hid (Bytes w a n cap zs) := hb
  rcases scan_cases zs hb.byte with ⟨X, hs, hX0, hX1, hvl, htk⟩ | hs | hs
  · generalize (vint X).length = m at *
    have HS : Hid (scan zs = (X, (m : Int), 0)) := hs
    clear hs htk hvl hb
    have HF : Hid (rdI zs = (uz X, m, 0)) := rdI_ok HS.out
    by_cases hodd : X % 2 = 1
    · have ho : (X % 2 == 1) = true := by simpa using hodd
      have HU : Hid (uz X = -(X / 2) - 1) := by show _ = _; unfold uz; rw [if_pos hodd]
      clear hodd
      go_enter Try.func61, Try.ntmps61
      go_wp2_with (go_at_call 71; refine (read_any _ _ _ zs _ HB.out).mono ?_; rw [HS.out]; rintro e w' ⟨rfl, rfl⟩)
      go_ret3
      rw [HF.out, HU.out]
      exact ⟨rfl, rfl⟩
    · have ho : (X % 2 == 1) = false := by simpa using hodd
      have HU : Hid (uz X = X / 2) := by show _ = _; unfold uz; rw [if_neg hodd]
      clear hodd
      go_enter Try.func61, Try.ntmps61
      go_wp2_with (go_at_call 71; refine (read_any _ _ _ zs _ HB.out).mono ?_; rw [HS.out]; rintro e w' ⟨rfl, rfl⟩)
      go_ret3
      rw [HF.out, HU.out]
      exact ⟨rfl, rfl⟩
  · have HF : Hid (rdI zs = (0, 0, 2)) := rdI_err hs (by decide)
    have HS : Hid (scan zs = (0, 0, 2)) := hs
    clear hs hb
    go_enter Try.func61, Try.ntmps61
    go_wp2_with (go_at_call 71; refine (read_any _ _ _ zs _ HB.out).mono ?_; rw [HS.out]; rintro e w' ⟨rfl, rfl⟩)
    go_ret3
    rw [HF.out]
    exact ⟨rfl, rfl⟩
  · have HF : Hid (rdI zs = (0, 0, 3)) := rdI_err hs (by decide)
    have HS : Hid (scan zs = (0, 0, 3)) := hs
    clear hs hb
    go_enter Try.func61, Try.ntmps61
    go_wp2_with (go_at_call 71; refine (read_any _ _ _ zs _ HB.out).mono ?_; rw [HS.out]; rintro e w' ⟨rfl, rfl⟩)
    go_ret3
    rw [HF.out]
    exact ⟨rfl, rfl⟩

end Go.Proofs.Ytphmamhchkolkaa.Ocm
