/-
  Power and Magic: the program's, and the document's.
-/
import Derived.Test.YtijbmdmeiancgaaGreatMKnA
import Derived.Test.YtijbmdmeiancgaaGreatMRA
import Derived.Test.YtijbmdmeiancgaaGreatMSpRefA
namespace Go.Proofs.Rdc
open Go.RowKit Go.IntWalk YtijbmdmeiancgaaGreat.Knd
set_option linter.unusedVariables false

theorem ret_pw {x y : Int} (h : x = y) : Ending.returned (.int .i64 x) = .returned (.int .i64 y) := by rw [h]

set_option maxRecDepth 100000 in
set_option maxHeartbeats 1000000 in
theorem upower_any (k : Int) (W : World) : Calls Tryz.prog 178 #[.int .i64 k] W fun e W' => e = .returned (.int .i64 (pwZ k)) ∧ W' = W := by
  have HY := hide fun (n : Nat) (h1 : n ≤ 30) (h2 : (2 : Int) ^ n = k) => pw_of h1 h2
  have HN := hide fun (h : ∀ n : Nat, n < 31 → (2 : Int) ^ n ≠ k) => pw_no h
  generalize pwZ k = z at *
  go_enter Tryz.func178, Tryz.ntmps178
  go_wp2_with fail
  go_loop [4] (fun i => ∃ n : Nat, n ≤ 31 ∧ i = .int .i64 n ∧ Hid (∀ j : Nat, j < n → (2 : Int) ^ j ≠ k)) (fun i => 31 - (intOf i).toNat)
  case atStart => exact ⟨0, by omega, rfl, hide fun j h => absurd h (Nat.not_lt_zero _)⟩
  case round =>
    obtain ⟨n, hn, rfl, HA⟩ := hrel
    by_cases hlt : n < 31
    · obtain ⟨p1, p2⟩ := pow_62 (show n ≤ 62 by omega)
      have HY2 := hide (HY.out n (by omega))
      have HA2 := hide fun (h : (2 : Int) ^ n ≠ k) => show ∀ j : Nat, j < n + 1 → (2 : Int) ^ j ≠ k from fun j hj => by
        by_cases e : j = n
        · rw [e]; exact h
        · exact HA.out j (by omega)
      obtain ⟨P, hP⟩ : ∃ P : Int, (2 : Int) ^ n = P := ⟨_, rfl⟩
      rw [hP] at p1 p2 HY2 HA2
      have hw : wrap64 P = P := wrap64_in _ ⟨by omega, by omega⟩
      by_cases he : P = k
      · have q : (k == P) = true := by simp; omega
        have HZ := hide (HY2.out he)
        clear he HY2 HA2 HY HN HA
        go_wp2_with fail
        go_ret
        exact ⟨ret_pw HZ.out.symm, rfl⟩
      · have q : (k == P) = false := by simp; omega
        have HZ := hide (HA2.out he)
        clear he HY2 HA2 HA
        go_wp2_with fail
        go_round
        case rel => exact ⟨n + 1, by omega, by go_num, HZ⟩
        case measure => simp [intOf]; omega
    · obtain rfl : n = 31 := by omega
      have HZ := hide (HN.out HA.out)
      clear HA HY HN
      go_wp2_with fail
      go_ret
      exact ⟨ret_pw HZ.out.symm, rfl⟩

set_option maxRecDepth 100000 in
set_option maxHeartbeats 1000000 in
theorem gpower_any (k : Int) (W : World) : Calls Tryz.prog 93 #[.int .i64 k] W fun e W' => e = .returned (.int .i64 (pwZ k)) ∧ W' = W := by
  have HY := hide fun (n : Nat) (h1 : n ≤ 30) (h2 : (2 : Int) ^ n = k) => pw_of h1 h2
  have HN := hide fun (h : ∀ n : Nat, n < 31 → (2 : Int) ^ n ≠ k) => pw_no h
  have HP := hide fun (n : Nat) (h : n ≤ 62) (w : World) => YtijbmdmeiancgaaGreat.Spn.rpower_any (n : Int) w (by omega)
  generalize pwZ k = z at *
  go_enter Tryz.func93, Tryz.ntmps93
  go_wp2_with fail
  go_loop [3] (fun i => ∃ n : Nat, n ≤ 31 ∧ i = .int .i64 n ∧ Hid (∀ j : Nat, j < n → (2 : Int) ^ j ≠ k)) (fun i => 31 - (intOf i).toNat)
  case atStart => exact ⟨0, by omega, rfl, hide fun j h => absurd h (Nat.not_lt_zero _)⟩
  case round =>
    obtain ⟨n, hn, rfl, HA⟩ := hrel
    by_cases hlt : n < 31
    · obtain ⟨p1, p2⟩ := pow_62 (show n ≤ 62 by omega)
      have HY2 := hide (HY.out n (by omega))
      have HA2 := hide fun (h : (2 : Int) ^ n ≠ k) => show ∀ j : Nat, j < n + 1 → (2 : Int) ^ j ≠ k from fun j hj => by
        by_cases e : j = n
        · rw [e]; exact h
        · exact HA.out j (by omega)
      have HP2 := hide fun w => HP.out n (by omega) w
      simp only [Int.toNat_natCast] at HP2
      generalize (2 : Int) ^ n = P at *
      by_cases he : P = k
      · have q : (P == k) = true := by simp; omega
        have HZ := hide (HY2.out he)
        clear he HY2 HA2 HY HN HA
        go_wp2_with fail
        refine (HP2.out _).mono ?_
        rintro e w' ⟨rfl, rfl⟩
        go_wp2_with fail
        go_ret
        exact ⟨ret_pw HZ.out.symm, rfl⟩
      · have q : (P == k) = false := by simpa using he
        have HZ := hide (HA2.out he)
        clear he HY2 HA2 HA
        go_wp2_with fail
        refine (HP2.out _).mono ?_
        rintro e w' ⟨rfl, rfl⟩
        go_wp2_with fail
        go_round
        case rel => exact ⟨n + 1, by omega, by go_num, HZ⟩
        case measure => simp [intOf]; omega
    · obtain rfl : n = 31 := by omega
      have HZ := hide (HN.out HA.out)
      clear HA HY HN
      go_wp2_with fail
      go_ret
      exact ⟨ret_pw HZ.out.symm, rfl⟩

/-- What Magic answers. -/
abbrev mgV (Z : Int × Int × Bool) : Value := .tuple #[.int .i64 Z.1, .int .i64 Z.2.1, .bool Z.2.2]
theorem mg_in {size d : Int} (h : 2 ≤ d ∧ d ≤ 2147483647 ∧ 0 ≤ size ∧ size ≤ 2147483648) : mgZ size d = mgR size d 63 0 := by rw [mgZ, if_pos h]
theorem mg_out {size d : Int} (h : ¬ (2 ≤ d ∧ d ≤ 2147483647 ∧ 0 ≤ size ∧ size ≤ 2147483648)) : mgZ size d = (0, 0, false) := by rw [mgZ, if_neg h]

set_option maxRecDepth 100000 in
set_option maxHeartbeats 2000000 in
theorem umagic_any (size d : Int) (W : World) : Calls Tryz.prog 184 #[.int .i64 size, .int .i64 d] W fun e W' => e = .returned (mgV (mgZ size d)) ∧ W' = W := by
  by_cases hin : 2 ≤ d ∧ d ≤ 2147483647 ∧ 0 ≤ size ∧ size ≤ 2147483648
  · rw [mg_in hin]
    obtain ⟨d1, d2, s1, s2⟩ := hin
    have HS := hide fun (s : Nat) (hs : s ≤ 62) (P k e E : Int) hP hk he hE => mg_step d1 d2 s1 s2 hs (P := P) (k := k) (e := e) (E := E) hP hk he hE
    have HB := hide fun (f s : Nat) h => mgR_big (size := size) (d := d) (f := f) (s := s) h
    have HY := hide fun (f s : Nat) h h2 => mgR_yes (size := size) (d := d) (f := f) (s := s) h h2
    have HX := hide fun (f s : Nat) h h2 => mgR_next (size := size) (d := d) (f := f) (s := s) h h2
    have H0 := hide fun (s : Nat) => show mgR size d 0 s = (0, 0, false) from rfl
    have HPW := hide fun (n : Nat) (h : n ≤ 62) (w : World) => YtijbmdmeiancgaaGreat.Spn.rpower_any (n : Int) w (by omega)
    obtain ⟨Z, hZ⟩ : ∃ Z, mgR size d 63 0 = Z := ⟨_, rfl⟩
    rw [hZ]
    have HZ := hide hZ
    clear hZ
    go_enter Tryz.func184, Tryz.ntmps184
    go_wp2_with fail
    go_loop [24] (fun i => ∃ n : Nat, n ≤ 63 ∧ i = .int .i64 n ∧ Hid (mgR size d (63 - n) n = Z)) (fun i => 63 - (intOf i).toNat)
    case atStart => exact ⟨0, by omega, rfl, HZ⟩
    case round =>
      obtain ⟨n, hn, rfl, HA⟩ := hrel
      clear HZ
      by_cases hlt : n < 63
      · have hf : 63 - n = (63 - (n + 1)) + 1 := by omega
        have HA' := HA.out
        rw [hf] at HA'
        have HB2 := hide fun h => HA'.symm.trans (HB.out (63 - (n + 1)) n h)
        have HY2 := hide fun h h2 => HA'.symm.trans (HY.out (63 - (n + 1)) n h h2)
        have HX2 := hide fun h h2 => (HX.out (63 - (n + 1)) n h h2).symm.trans HA'
        have HS2 := hide (HS.out n (by omega))
        have HP2 := hide fun w => HPW.out n (by omega) w
        simp only [Int.toNat_natCast] at HP2
        clear HA HA' hf HB HY HX HS
        obtain ⟨P, hP⟩ : ∃ P : Int, (2 : Int) ^ n = P := ⟨_, rfl⟩
        obtain ⟨k, hk⟩ : ∃ k : Int, P / d + 1 = k := ⟨_, rfl⟩
        obtain ⟨X, hX⟩ : ∃ X : Int, k * d = X := ⟨_, rfl⟩
        obtain ⟨y, hy⟩ : ∃ y : Int, k * d - P = y := ⟨_, rfl⟩
        obtain ⟨E, hE⟩ : ∃ E : Int, y * size = E := ⟨_, rfl⟩
        obtain ⟨p1, p2, k1, k2, x2, x1, y1, y2, e1, e2, hbig, hzer⟩ := HS2.out P k y E hP hk hy hE
        rw [hP, hk, hy, hE] at HY2 HX2
        rw [hP, hk] at HB2
        rw [hX] at x1 x2 hy
        have hq : P / d = k - 1 := by omega
        have hqt : P.tdiv d = k - 1 := by rw [Int.tdiv_eq_ediv_of_nonneg (by omega)]; exact hq
        have HBig := hide hbig
        have HZer := hide hzer
        have hd0 : (d == 0) = false := by simp; omega
        have hwP : wrap64 P = P := wrap64_in _ ⟨by omega, by omega⟩
        have hwX : wrap64 X = X := wrap64_in _ ⟨by omega, by omega⟩
        have hwE : wrap64 E = E := wrap64_in _ ⟨by omega, by omega⟩
        rw [hP] at HP2
        clear hq hk hbig hzer HS2
        by_cases hs0 : size = 0
        · have HNB := hide (show k * size ≤ 4611686018427387904 by have := HZer.out hs0; omega)
          have hE0 : E = 0 := by rw [← hE, hs0, Int.mul_zero]
          have HT := hide (HY2.out (by have := HNB.out; omega) (by omega))
          subst hs0
          have hlt2 : decide (E < P) = true := by simp; omega
          clear HBig HZer HB2 HY2 HX2 HNB
          subst hE0
          go_wp2_with fail
          exact bodyPost_ret (v := .tuple #[.int .i64 k, .int .i64 n, .bool true]) (by simp [results, Tryz.results184, go_sem]) rfl ⟨by rw [HT.out], rfl⟩
        · have hs1 : 0 < size := by omega
          have q0 : decide (0 < size) = true := by simpa using hs1
          have q1 : (size != 0) = true := by simpa using hs0
          have q2 : (size == 0) = false := by simpa using hs0
          have hB1 := HBig.out hs1
          obtain ⟨R, hR⟩ : ∃ R : Int, 4611686018427387904 / size = R := ⟨_, rfl⟩
          have r1 : 0 ≤ R ∧ R ≤ 4611686018427387904 := by
            rw [← hR]
            exact ⟨Int.ediv_nonneg (by omega) (by omega), Int.ediv_le_self _ (by omega)⟩
          have hRt : Int.tdiv 4611686018427387904 size = R := by rw [Int.tdiv_eq_ediv_of_nonneg (by omega)]; exact hR
          rw [hR] at hB1
          clear hR
          by_cases hb : R < k
          · have HT := hide (HB2.out (by have := hB1.1 hb; omega))
            have q3 : decide (R < k) = true := by simpa using hb
            clear HBig HZer HB2 HY2 HX2 hB1 hb
            go_wp2_with fail
            exact bodyPost_ret (v := .tuple #[.int .i64 0, .int .i64 0, .bool false]) (by simp [results, Tryz.results184, go_sem]) rfl ⟨by rw [HT.out], rfl⟩
          · have HNB := hide (Int.not_lt.1 fun h => hb (hB1.2 h))
            have q3 : decide (R < k) = false := by simpa using hb
            by_cases hl : E < P
            · have HT := hide (HY2.out (by have := HNB.out; omega) (by omega))
              have q4 : decide (E < P) = true := by simpa using hl
              clear HBig HZer HB2 HY2 HX2 hB1 hb HNB hl
              go_wp2_with fail
              exact bodyPost_ret (v := .tuple #[.int .i64 k, .int .i64 n, .bool true]) (by simp [results, Tryz.results184, go_sem]) rfl ⟨by rw [HT.out], rfl⟩
            · have HT := hide (HX2.out (by have := HNB.out; omega) (by omega))
              have q4 : decide (E < P) = false := by simpa using hl
              clear HBig HZer HB2 HY2 HX2 hB1 hb HNB hl
              go_wp2_with fail
              go_round
              case rel => exact ⟨n + 1, by omega, by go_num, HT⟩
              case measure => simp [intOf]; omega
      · obtain rfl : n = 63 := by omega
        have HT := hide (HA.out.symm.trans (H0.out 63))
        clear HA
        go_wp2_with fail
        exact bodyPost_ret (v := .tuple #[.int .i64 0, .int .i64 0, .bool false]) (by simp [results, Tryz.results184, go_sem]) rfl ⟨by rw [HT.out], rfl⟩
  · rw [mg_out hin]
    by_cases a1 : d < 2
    · go_enter Tryz.func184, Tryz.ntmps184
      go_wp2_with fail
      exact bodyPost_ret (v := .tuple #[.int .i64 0, .int .i64 0, .bool false]) (by simp [results, Tryz.results184, go_sem]) rfl ⟨rfl, rfl⟩
    by_cases a2 : 2147483647 < d
    · go_enter Tryz.func184, Tryz.ntmps184
      go_wp2_with fail
      exact bodyPost_ret (v := .tuple #[.int .i64 0, .int .i64 0, .bool false]) (by simp [results, Tryz.results184, go_sem]) rfl ⟨rfl, rfl⟩
    by_cases a3 : size < 0
    · go_enter Tryz.func184, Tryz.ntmps184
      go_wp2_with fail
      exact bodyPost_ret (v := .tuple #[.int .i64 0, .int .i64 0, .bool false]) (by simp [results, Tryz.results184, go_sem]) rfl ⟨rfl, rfl⟩
    have a4 : 2147483648 < size := by omega
    clear hin
    go_enter Tryz.func184, Tryz.ntmps184
    go_wp2_with fail
    exact bodyPost_ret (v := .tuple #[.int .i64 0, .int .i64 0, .bool false]) (by simp [results, Tryz.results184, go_sem]) rfl ⟨rfl, rfl⟩

set_option maxRecDepth 100000 in
set_option maxHeartbeats 2000000 in
theorem gmagic_any (size d : Int) (W : World) : Calls Tryz.prog 125 #[.int .i64 size, .int .i64 d] W fun e W' => e = .returned (mgV (mgZ size d)) ∧ W' = W := by
  by_cases hin : 2 ≤ d ∧ d ≤ 2147483647 ∧ 0 ≤ size ∧ size ≤ 2147483648
  · rw [mg_in hin]
    obtain ⟨d1, d2, s1, s2⟩ := hin
    have HS := hide fun (s : Nat) (hs : s ≤ 62) (P k e E : Int) hP hk he hE => mg_step d1 d2 s1 s2 hs (P := P) (k := k) (e := e) (E := E) hP hk he hE
    have HB := hide fun (f s : Nat) h => mgR_big (size := size) (d := d) (f := f) (s := s) h
    have HY := hide fun (f s : Nat) h h2 => mgR_yes (size := size) (d := d) (f := f) (s := s) h h2
    have HX := hide fun (f s : Nat) h h2 => mgR_next (size := size) (d := d) (f := f) (s := s) h h2
    have H0 := hide fun (s : Nat) => show mgR size d 0 s = (0, 0, false) from rfl
    have HPW := hide fun (n : Nat) (h : n ≤ 62) (w : World) => YtijbmdmeiancgaaGreat.Spn.rpower_any (n : Int) w (by omega)
    obtain ⟨Z, hZ⟩ : ∃ Z, mgR size d 63 0 = Z := ⟨_, rfl⟩
    rw [hZ]
    have HZ := hide hZ
    clear hZ
    go_enter Tryz.func125, Tryz.ntmps125
    go_wp2_with fail
    go_loop [8] (fun i => ∃ n : Nat, n ≤ 63 ∧ i = .int .i64 n ∧ Hid (mgR size d (63 - n) n = Z)) (fun i => 63 - (intOf i).toNat)
    case atStart => exact ⟨0, by omega, rfl, HZ⟩
    case round =>
      obtain ⟨n, hn, rfl, HA⟩ := hrel
      clear HZ
      by_cases hlt : n < 63
      · have hf : 63 - n = (63 - (n + 1)) + 1 := by omega
        have HA' := HA.out
        rw [hf] at HA'
        have HB2 := hide fun h => HA'.symm.trans (HB.out (63 - (n + 1)) n h)
        have HY2 := hide fun h h2 => HA'.symm.trans (HY.out (63 - (n + 1)) n h h2)
        have HX2 := hide fun h h2 => (HX.out (63 - (n + 1)) n h h2).symm.trans HA'
        have HS2 := hide (HS.out n (by omega))
        have HP2 := hide fun w => HPW.out n (by omega) w
        simp only [Int.toNat_natCast] at HP2
        clear HA HA' hf HB HY HX HS
        obtain ⟨P, hP⟩ : ∃ P : Int, (2 : Int) ^ n = P := ⟨_, rfl⟩
        obtain ⟨k, hk⟩ : ∃ k : Int, P / d + 1 = k := ⟨_, rfl⟩
        obtain ⟨X, hX⟩ : ∃ X : Int, k * d = X := ⟨_, rfl⟩
        obtain ⟨y, hy⟩ : ∃ y : Int, k * d - P = y := ⟨_, rfl⟩
        obtain ⟨E, hE⟩ : ∃ E : Int, y * size = E := ⟨_, rfl⟩
        obtain ⟨p1, p2, k1, k2, x2, x1, y1, y2, e1, e2, hbig, hzer⟩ := HS2.out P k y E hP hk hy hE
        rw [hP, hk, hy, hE] at HY2 HX2
        rw [hP, hk] at HB2
        rw [hX] at x1 x2 hy
        have hq : P / d = k - 1 := by omega
        have hqt : P.tdiv d = k - 1 := by rw [Int.tdiv_eq_ediv_of_nonneg (by omega)]; exact hq
        have HBig := hide hbig
        have HZer := hide hzer
        have hd0 : (d == 0) = false := by simp; omega
        have hwP : wrap64 P = P := wrap64_in _ ⟨by omega, by omega⟩
        have hwX : wrap64 X = X := wrap64_in _ ⟨by omega, by omega⟩
        have hwE : wrap64 E = E := wrap64_in _ ⟨by omega, by omega⟩
        rw [hP] at HP2
        clear hq hk hbig hzer HS2
        by_cases hs0 : size = 0
        · have HNB := hide (show k * size ≤ 4611686018427387904 by have := HZer.out hs0; omega)
          have hE0 : E = 0 := by rw [← hE, hs0, Int.mul_zero]
          have HT := hide (HY2.out (by have := HNB.out; omega) (by omega))
          subst hs0
          have hlt2 : decide (E < P) = true := by simp; omega
          clear HBig HZer HB2 HY2 HX2 HNB
          subst hE0
          go_wp2_with fail
          refine (HP2.out _).mono ?_
          rintro e w' ⟨rfl, rfl⟩
          go_wp2_with fail
          exact bodyPost_ret (v := .tuple #[.int .i64 k, .int .i64 n, .bool true]) (by simp [results, Tryz.results125, go_sem]) rfl ⟨by rw [HT.out], rfl⟩
        · have hs1 : 0 < size := by omega
          have q0 : decide (0 < size) = true := by simpa using hs1
          have q1 : (size != 0) = true := by simpa using hs0
          have q2 : (size == 0) = false := by simpa using hs0
          have hB1 := HBig.out hs1
          obtain ⟨R, hR⟩ : ∃ R : Int, 4611686018427387904 / size = R := ⟨_, rfl⟩
          have r1 : 0 ≤ R ∧ R ≤ 4611686018427387904 := by
            rw [← hR]
            exact ⟨Int.ediv_nonneg (by omega) (by omega), Int.ediv_le_self _ (by omega)⟩
          have hRt : Int.tdiv 4611686018427387904 size = R := by rw [Int.tdiv_eq_ediv_of_nonneg (by omega)]; exact hR
          rw [hR] at hB1
          clear hR
          by_cases hb : R < k
          · have HT := hide (HB2.out (by have := hB1.1 hb; omega))
            have q3 : decide (R < k) = true := by simpa using hb
            clear HBig HZer HB2 HY2 HX2 hB1 hb
            go_wp2_with fail
            refine (HP2.out _).mono ?_
            rintro e w' ⟨rfl, rfl⟩
            go_wp2_with fail
            exact bodyPost_ret (v := .tuple #[.int .i64 0, .int .i64 0, .bool false]) (by simp [results, Tryz.results125, go_sem]) rfl ⟨by rw [HT.out], rfl⟩
          · have HNB := hide (Int.not_lt.1 fun h => hb (hB1.2 h))
            have q3 : decide (R < k) = false := by simpa using hb
            by_cases hl : E < P
            · have HT := hide (HY2.out (by have := HNB.out; omega) (by omega))
              have q4 : decide (E < P) = true := by simpa using hl
              clear HBig HZer HB2 HY2 HX2 hB1 hb HNB hl
              go_wp2_with fail
              refine (HP2.out _).mono ?_
              rintro e w' ⟨rfl, rfl⟩
              go_wp2_with fail
              exact bodyPost_ret (v := .tuple #[.int .i64 k, .int .i64 n, .bool true]) (by simp [results, Tryz.results125, go_sem]) rfl ⟨by rw [HT.out], rfl⟩
            · have HT := hide (HX2.out (by have := HNB.out; omega) (by omega))
              have q4 : decide (E < P) = false := by simpa using hl
              clear HBig HZer HB2 HY2 HX2 hB1 hb HNB hl
              go_wp2_with fail
              refine (HP2.out _).mono ?_
              rintro e w' ⟨rfl, rfl⟩
              go_wp2_with fail
              go_round
              case rel => exact ⟨n + 1, by omega, by go_num, HT⟩
              case measure => simp [intOf]; omega
      · obtain rfl : n = 63 := by omega
        have HT := hide (HA.out.symm.trans (H0.out 63))
        clear HA
        go_wp2_with fail
        exact bodyPost_ret (v := .tuple #[.int .i64 0, .int .i64 0, .bool false]) (by simp [results, Tryz.results125, go_sem]) rfl ⟨by rw [HT.out], rfl⟩
  · rw [mg_out hin]
    by_cases a1 : d < 2
    · go_enter Tryz.func125, Tryz.ntmps125
      go_wp2_with fail
      exact bodyPost_ret (v := .tuple #[.int .i64 0, .int .i64 0, .bool false]) (by simp [results, Tryz.results125, go_sem]) rfl ⟨rfl, rfl⟩
    by_cases a2 : 2147483647 < d
    · go_enter Tryz.func125, Tryz.ntmps125
      go_wp2_with fail
      exact bodyPost_ret (v := .tuple #[.int .i64 0, .int .i64 0, .bool false]) (by simp [results, Tryz.results125, go_sem]) rfl ⟨rfl, rfl⟩
    by_cases a3 : size < 0
    · go_enter Tryz.func125, Tryz.ntmps125
      go_wp2_with fail
      exact bodyPost_ret (v := .tuple #[.int .i64 0, .int .i64 0, .bool false]) (by simp [results, Tryz.results125, go_sem]) rfl ⟨rfl, rfl⟩
    have a4 : 2147483648 < size := by omega
    clear hin
    go_enter Tryz.func125, Tryz.ntmps125
    go_wp2_with fail
    exact bodyPost_ret (v := .tuple #[.int .i64 0, .int .i64 0, .bool false]) (by simp [results, Tryz.results125, go_sem]) rfl ⟨rfl, rfl⟩

end Go.Proofs.Rdc
