/-
  The document's Tokens: the tokens of a text.
-/
import Derived.Test.YtamekjocchekoaaSame
import Derived.Test.YtamekjocchekoaaPure4
namespace Go.Proofs.Ytamekjocchekoaa
open Go.RowKit Go.IntWalk Lx
set_option linter.unusedVariables false

theorem bs_mid (s : ByteArray) (k m : Nat) : bs (s.extract k (k + m)) = ((bs s).drop k).take m := by
  show (s.extract k (k + m)).data.toList = _
  rw [ByteArray.data_extract]
  simp
theorem size_mid {s : ByteArray} {k m : Nat} (h : k + m ≤ s.size) : (s.extract k (k + m)).size = m := by
  rw [← bs_len, bs_mid, List.length_take, List.length_drop, bs_len]
  omega
theorem rk_range (x : List UInt8) : rk x = 0 ∨ rk x = 1 ∨ rk x = 2 ∨ rk x = 3 := by
  unfold rk
  split
  · simp
  · split
    · simp
    · split <;> simp
theorem rgd_yes {x : List UInt8} (h : rgd x = true) : (rk x = 1 ∧ num x = true) ∨ (rk x = 2 ∧ wrd x = true) ∨ rk x = 3 := by
  unfold rgd at h
  rcases rk_range x with e | e | e | e <;> rw [e] at h ⊢
  · cases h
  · left; exact ⟨rfl, by simpa using h⟩
  · right; left; exact ⟨rfl, by simpa using h⟩
  · right; right; rfl
theorem rgd_no {x : List UInt8} (h : rgd x = false) : rk x = 0 ∨ (rk x = 1 ∧ num x = false) ∨ (rk x = 2 ∧ wrd x = false) := by
  unfold rgd at h
  rcases rk_range x with e | e | e | e <;> rw [e] at h ⊢
  · left; rfl
  · right; left; exact ⟨rfl, by simpa using h⟩
  · right; right; exact ⟨rfl, by simpa using h⟩
  · cases h

set_option maxHeartbeats 16000000 in
set_option maxRecDepth 100000 in
theorem rtokens_any (s : ByteArray) (w : World) : Calls Try.prog 24 #[.string s] w fun e w' => TP w (bs s) e w' := by
  by_cases hbig : 1024 < s.size
  · have hn : tks (bs s) = none := by unfold tks; rw [bs_len, if_pos hbig]
    have hn' := hide hn
    clear hn
    go_enter Try.func24, Try.ntmps24
    go_wp2
    go_ret2
    exact .inl ⟨hn'.out, rfl, Below.refl _ _⟩
  · have hs : s.size ≤ 1024 := by omega
    have htk := hide (show tks (bs s) = sc (bs s) 0 by unfold tks; rw [bs_len, if_neg hbig])
    clear hbig
    go_enter Try.func24, Try.ntmps24
    go_wp2
    go_loopg [4, 5] s.size (fun g v i W => ∃ k n : Nat, ∃ T : List Tok, k + g = s.size ∧ n ≤ k ∧ i = .int .i64 k ∧ Hid (Es w W v n T) ∧ Hid (Inv (bs s) k T))
    case atStart => exact ⟨0, 0, [], by omega, Nat.le_refl _, rfl, hide (Es.start w), hide (Inv.start _)⟩
    case round =>
      obtain ⟨k, n, T, hk, hnk, rfl, HE, HI⟩ := hrel
      by_cases hlt : k < s.size
      · have hc := hide (bs_at hlt)
        have HBl := hide fun w => among_blanks s[k].toNat w
        rw [inBl_eq] at HBl
        cases hb : bl s[k] with
        | true =>
          rw [hb] at HBl
          have HI2 := hide (HI.out.blank hc.out hb)
          clear hb
          go_wp2_with fail
          refine (HBl.out _).mono ?_
          rintro e w1 ⟨rfl, rfl⟩
          go_wp2_with fail
          go_roundg (s.size - (k + 1))
          case measure => omega
          case rel => exact ⟨k + 1, n, T, by omega, by omega, by go_num, HE, HI2⟩
        | false =>
          rw [hb] at HBl
          have HB' := hide hb
          clear hb
          cases h4 : ((s[k].toNat : Int) == 35) with
          | true =>
            have H35 := hide (show (bs s)[k]? = some 35 by rw [hc.out, eq_of_nat (n := 35) h4 35 rfl])
            have h3 : ((s[k].toNat : Int) == 10) = false := by rw [eq_of_nat (n := 35) h4 35 rfl]; rfl
            go_wp2_with fail
            refine (HBl.out _).mono ?_
            rintro e w1 ⟨rfl, rfl⟩
            go_wp2_with fail
            go_loopg [5] (s.size - k) (fun g2 i wy => ∃ j : Nat, j + g2 = s.size ∧ k ≤ j ∧ i = .int .i64 j ∧ Hid ((((bs s).drop k).take (j - k)).all nl = true) ∧ wy = w1)
            case atStart => exact ⟨k, by omega, Nat.le_refl _, rfl, hide (by simp), rfl⟩
            case round =>
              obtain ⟨j, hj, hkj, rfl, HA, rfl⟩ := hrel
              by_cases hjl : j < s.size
              · have hcj := hide (bs_at hjl)
                cases h10 : ((s[j].toNat : Int) == 10) with
                | true =>
                  have h10' : ((s[j].toNat : Int) != 10) = false := by simp only [bne, h10, Bool.not_true]
                  have hne : k < j := by
                    rcases Nat.lt_or_ge k j with h | h
                    · exact h
                    · obtain rfl : j = k := by omega
                      rw [h10] at h3; cases h3
                  have HI2 := hide (HI.out.rem H35.out hne (by rw [bs_len]; omega) HA.out (by intro c h; rw [hcj.out] at h; cases h; exact eq_of_nat (n := 10) h10 10 rfl))
                  go_wp2
                  go_roundg (s.size - j)
                  case measure => omega
                  case rel => exact ⟨j, n, T, by omega, by omega, rfl, HE, HI2⟩
                | false =>
                  have h10' : ((s[j].toNat : Int) != 10) = true := by simp only [bne, h10, Bool.not_false]
                  have HA2 := hide (all_snoc (l := (bs s).drop k) (k := j - k) (c := s[j]) HA.out (by rw [List.getElem?_drop, show k + (j - k) = j by omega]; exact hcj.out) (nl_of h10))
                  rw [show j - k + 1 = j + 1 - k by omega] at HA2
                  go_wp2
                  go_roundg (s.size - (j + 1))
                  case measure => omega
                  case rel => exact ⟨j + 1, by omega, by omega, by go_num, HA2, rfl⟩
              · have hne : k < j := by omega
                have HI2 := hide (HI.out.rem H35.out (j := j) (by omega) (by rw [bs_len]; omega) HA.out (by intro c h; rw [List.getElem?_eq_none (by rw [bs_len]; omega)] at h; cases h))
                go_wp2
                go_roundg (s.size - j)
                case measure => omega
                case rel => exact ⟨j, n, T, by omega, by omega, rfl, HE, HI2⟩
          | false =>
            have h35 := hide (ne_of_nat (n := 35) h4 35 rfl)
            obtain ⟨r, hr⟩ : ∃ r, (bs s).drop (k + 1) = r := ⟨_, rfl⟩
            have hdc : (bs s).drop k = s[k] :: r := by rw [drop_cons hc.out, hr]
            have hel := ez_le (l := (bs s).drop k) (by rw [hdc]; simp)
            rw [List.length_drop, bs_len] at hel
            have hep := ez_pos ((bs s).drop k)
            obtain ⟨z, hz⟩ : ∃ z, ez ((bs s).drop k) = z := ⟨_, rfl⟩
            rw [hz] at hel hep
            have HZ := hide hz
            have HR := hide hdc
            have hEs : k + z ≤ s.size := by omega
            clear hz hdc hr
            go_wp2_with fail
            refine (HBl.out _).mono ?_
            rintro e w1 ⟨rfl, rfl⟩
            go_wp2_with fail
            go_loopg [6] (z - 1) (fun g2 i wy => ∃ j : Nat, j + g2 = z ∧ 1 ≤ j ∧ i = .int .i64 ((k + j : Nat) : Int) ∧ wy = w1)
            case atStart => exact ⟨1, by omega, Nat.le_refl _, by go_num, rfl⟩
            case round =>
              obtain ⟨j, hj, hj1, rfl, rfl⟩ := hrel
              have hsm : s.extract k (k + j + 1) = s.extract k (k + (j + 1)) := by rw [Nat.add_assoc]
              by_cases hjz : j < z
              · have HKc := hide fun w => rkind_any (s.extract k (k + (j + 1))) w (by rw [size_mid (by omega)]; omega) (by rw [size_mid (by omega)]; unfold maxLen; omega)
                rw [bs_mid] at HKc
                have hne : rk (((bs s).drop k).take (j + 1)) ≠ 0 := by
                  have := HZ.out
                  rw [HR.out] at this ⊢
                  exact go_on (by omega) (by rw [this]; omega)
                generalize rk (((bs s).drop k).take (j + 1)) = K at HKc hne
                have hne' : (K != 0) = true := by simp [hne]
                have hjs : ((k + j : Nat) : Int) < (s.size : Int) := by omega
                clear hne
                go_wp2_with fail
                refine (HKc.out _).mono ?_
                rintro e w2 ⟨rfl, rfl⟩
                go_wp2_with fail
                go_roundg (z - (j + 1))
                case measure => omega
                case rel => exact ⟨j + 1, by omega, by omega, by go_num, rfl⟩
              · obtain rfl : j = z := by omega
                by_cases hle : k + j < s.size
                · have HK0 := hide fun w => rkind_any (s.extract k (k + (j + 1))) w (by rw [size_mid (by omega)]; omega) (by rw [size_mid (by omega)]; unfold maxLen; omega)
                  rw [bs_mid] at HK0
                  have h0 : rk (((bs s).drop k).take (j + 1)) = 0 := by
                    have := HZ.out
                    have hlen : ((bs s).drop k).length = s.size - k := by rw [List.length_drop, bs_len]
                    rw [HR.out] at this hlen ⊢
                    rw [← this]
                    exact go_end (by rw [this, hlen]; omega)
                  rw [h0] at HK0
                  clear h0
                  obtain ⟨X, hX⟩ : ∃ X, ((bs s).drop k).take j = X := ⟨_, rfl⟩
                  have hP : s.extract k (k + j) = sB X := by rw [← sB_bs (s.extract k (k + j)), bs_mid, hX]
                  have hXl : X.length = j := by rw [← hX, List.length_take, List.length_drop, bs_len]; omega
                  have hXs : (sB X).size = j := by rw [← bs_len]; exact hXl
                  have HKP := hide fun w => rkind_any (sB X) w (by rw [hXs]; omega) (by rw [hXs]; unfold maxLen; omega)
                  have HNP := hide fun w => rnumber_any (sB X) w (by rw [hXs]; unfold maxLen; omega)
                  have HWP := hide fun w => rword_any (sB X) w (by rw [hXs]; unfold maxLen; omega)
                  rw [bs_sB] at HKP HNP HWP
                  have HXl := hide hXl
                  clear hXl hXs
                  have hjs : ((k + j : Nat) : Int) < (s.size : Int) := by omega
                  go_wp2_with fail
                  refine (HK0.out _).mono ?_
                  rintro e w2 ⟨rfl, rfl⟩
                  cases h33 : ((s[k].toNat : Int) == 33) with
                  | false =>
                    cases hg : gd ((bs s).drop k) with
                    | true =>
                      obtain ⟨hk1, hk2, hk3⟩ := piece_good (c := s[k]) (r := r) (by rw [← HR.out]; exact hg)
                      rw [← HR.out, HZ.out, hX] at hk1 hk3
                      rw [← HR.out, HZ.out] at hk2
                      have HI2 := hide (HI.out.tok hc.out HB'.out h35.out hg)
                      rw [← hk2, hX, ← hk1] at HI2
                      clear hk1 hk2 hg hX
                      rcases rgd_yes hk3 with ⟨e1, e2⟩ | ⟨e1, e2⟩ | e1
                      · rw [e1] at HKP HI2
                        rw [e2] at HNP
                        clear e1 e2 hk3
                        go_wp2_with fail
                        refine (HKP.out _).mono ?_
                        rintro e w3 ⟨rfl, rfl⟩
                        go_wp2_with fail
                        refine (HNP.out _).mono ?_
                        rintro e w3 ⟨rfl, rfl⟩
                        rename World => w8
                        have HN8 := hide (HasC.new w8 49 (tc 1 (sB X) k))
                        go_wp2_with (at_builtin; refine list_tok rfl _ _ rfl rfl (HE.out.alloc _) w8.heap.size ⟨1, X, k⟩ rfl HN8.out (by omega) ?_; intro g cap w9 hE9 hsz9)
                        go_roundg (s.size - (k + j))
                        case measure => omega
                        case rel => exact ⟨k + j, n + 1, _, by omega, by omega, by go_num, hide hE9, HI2⟩
                      · rw [e1] at HKP HI2
                        rw [e2] at HWP
                        clear e1 e2 hk3
                        go_wp2_with fail
                        refine (HKP.out _).mono ?_
                        rintro e w3 ⟨rfl, rfl⟩
                        go_wp2_with fail
                        refine (HNP.out _).mono ?_
                        rintro e w3 ⟨rfl, rfl⟩
                        go_wp2_with fail
                        refine (HWP.out _).mono ?_
                        rintro e w3 ⟨rfl, rfl⟩
                        rename World => w8
                        have HN8 := hide (HasC.new w8 49 (tc 2 (sB X) k))
                        go_wp2_with (at_builtin; refine list_tok rfl _ _ rfl rfl (HE.out.alloc _) w8.heap.size ⟨2, X, k⟩ rfl HN8.out (by omega) ?_; intro g cap w9 hE9 hsz9)
                        go_roundg (s.size - (k + j))
                        case measure => omega
                        case rel => exact ⟨k + j, n + 1, _, by omega, by omega, by go_num, hide hE9, HI2⟩
                      · rw [e1] at HKP HI2
                        clear e1 hk3
                        go_wp2_with fail
                        refine (HKP.out _).mono ?_
                        rintro e w3 ⟨rfl, rfl⟩
                        go_wp2_with fail
                        refine (HNP.out _).mono ?_
                        rintro e w3 ⟨rfl, rfl⟩
                        rename World => w8
                        have HN8 := hide (HasC.new w8 49 (tc 3 (sB X) k))
                        go_wp2_with (at_builtin; refine list_tok rfl _ _ rfl rfl (HE.out.alloc _) w8.heap.size ⟨3, X, k⟩ rfl HN8.out (by omega) ?_; intro g cap w9 hE9 hsz9)
                        go_roundg (s.size - (k + j))
                        case measure => omega
                        case rel => exact ⟨k + j, n + 1, _, by omega, by omega, by go_num, hide hE9, HI2⟩
                    | false =>
                      have hk3 := piece_bad (c := s[k]) (r := r) (by rw [← HR.out]; exact hg)
                      rw [← HR.out, HZ.out, hX] at hk3
                      have hN := hide (HI.out.bad hc.out HB'.out h35.out hg)
                      clear hg hX
                      rcases rgd_no hk3 with e1 | ⟨e1, e2⟩ | ⟨e1, e2⟩
                      · rw [e1] at HKP
                        clear e1 hk3
                        go_wp2_with fail
                        refine (HKP.out _).mono ?_
                        rintro e w3 ⟨rfl, rfl⟩
                        go_wp2_with fail
                        refine (HNP.out _).mono ?_
                        rintro e w3 ⟨rfl, rfl⟩
                        go_wp2_with fail
                        go_ret2
                        exact .inl ⟨htk.out.trans hN.out, rfl, HE.out.bel⟩
                      · rw [e1] at HKP
                        rw [e2] at HNP
                        clear e1 e2 hk3
                        go_wp2_with fail
                        refine (HKP.out _).mono ?_
                        rintro e w3 ⟨rfl, rfl⟩
                        go_wp2_with fail
                        refine (HNP.out _).mono ?_
                        rintro e w3 ⟨rfl, rfl⟩
                        go_wp2_with fail
                        go_ret2
                        exact .inl ⟨htk.out.trans hN.out, rfl, HE.out.bel⟩
                      · rw [e1] at HKP
                        rw [e2] at HWP
                        clear e1 e2 hk3
                        go_wp2_with fail
                        refine (HKP.out _).mono ?_
                        rintro e w3 ⟨rfl, rfl⟩
                        go_wp2_with fail
                        refine (HNP.out _).mono ?_
                        rintro e w3 ⟨rfl, rfl⟩
                        go_wp2_with fail
                        refine (HWP.out _).mono ?_
                        rintro e w3 ⟨rfl, rfl⟩
                        go_wp2_with fail
                        go_ret2
                        exact .inl ⟨htk.out.trans hN.out, rfl, HE.out.bel⟩
                  | true =>
                    have hk33 := eq_of_nat (n := 33) h33 33 rfl
                    by_cases hk1 : k + 1 < s.size
                    · have hc1 := bs_at hk1
                      have hdd : (bs s).drop k = 33 :: s[k + 1] :: (bs s).drop (k + 1 + 1) := by rw [drop_cons hc.out, drop_cons hc1, hk33]
                      cases h61 : ((s[k + 1].toNat : Int) == 61) with
                      | true =>
                        have hk61 := eq_of_nat (n := 61) h61 61 rfl
                        rw [hk61] at hdd
                        have hz2 : j = 2 := by rw [← HZ.out, hdd]; exact ez_bang _
                        have hX2 : X = [33, 61] := by rw [← hX, hdd, hz2]; rfl
                        have hg : gd ((bs s).drop k) = true := by
                          rw [hdd]
                          simp [gd, kd, sz, mk, may, two, D, A, dg, lt]
                        obtain ⟨hk1', hk2, hk3⟩ := piece_good (c := s[k]) (r := r) (by rw [← HR.out]; exact hg)
                        rw [← HR.out, HZ.out, hX] at hk1'
                        rw [← HR.out, HZ.out] at hk2
                        have HI2 := hide (HI.out.tok hc.out HB'.out h35.out hg)
                        have e1 : rk X = 3 := by rw [hX2]; decide
                        rw [← hk2, hX, ← hk1', e1] at HI2
                        rw [e1] at HKP
                        clear hk1' hk2 hk3 hg hX hX2 e1 hdd hk61 hc1
                        subst hz2
                        go_wp2_with fail
                        refine (HKP.out _).mono ?_
                        rintro e w3 ⟨rfl, rfl⟩
                        go_wp2_with fail
                        refine (HNP.out _).mono ?_
                        rintro e w3 ⟨rfl, rfl⟩
                        rename World => w8
                        have HN8 := hide (HasC.new w8 49 (tc 3 (sB X) k))
                        go_wp2_with (at_builtin; refine list_tok rfl _ _ rfl rfl (HE.out.alloc _) w8.heap.size ⟨3, X, k⟩ rfl HN8.out (by omega) ?_; intro g cap w9 hE9 hsz9)
                        go_roundg (s.size - (k + 2))
                        case measure => omega
                        case rel => exact ⟨k + 2, n + 1, _, by omega, by omega, by go_num, hide hE9, HI2⟩
                      | false =>
                        have hk61 := ne_of_nat (n := 61) h61 61 rfl
                        have hz1 : j = 1 := by
                          rw [← HZ.out, hdd, ez_mark (by decide) (by decide), if_neg (by simp [two, hk61])]
                        have e1 : rk X = 0 := by rw [← hX, hdd, hz1]; show rk [33] = 0; decide
                        have hg : gd ((bs s).drop k) = false := by
                          cases hg : gd ((bs s).drop k) with
                          | false => rfl
                          | true =>
                            obtain ⟨-, -, hk3⟩ := piece_good (c := s[k]) (r := r) (by rw [← HR.out]; exact hg)
                            rw [← HR.out, HZ.out, hX] at hk3
                            rcases rgd_yes hk3 with ⟨e2, -⟩ | ⟨e2, -⟩ | e2 <;> rw [e1] at e2 <;> cases e2
                        have hN := hide (HI.out.bad hc.out HB'.out h35.out hg)
                        rw [e1] at HKP
                        clear hg hX e1 hdd hk61 hc1 hz1
                        go_wp2_with fail
                        refine (HKP.out _).mono ?_
                        rintro e w3 ⟨rfl, rfl⟩
                        go_wp2_with fail
                        refine (HNP.out _).mono ?_
                        rintro e w3 ⟨rfl, rfl⟩
                        go_wp2_with fail
                        go_ret2
                        exact .inl ⟨htk.out.trans hN.out, rfl, HE.out.bel⟩
                    · have hdd : (bs s).drop k = [33] := by rw [drop_cons hc.out, hk33, List.drop_of_length_le (by rw [bs_len]; omega)]
                      have hz1 : j = 1 := by omega
                      have e1 : rk X = 0 := by rw [← hX, hdd, hz1]; decide
                      have hg : gd ((bs s).drop k) = false := by
                        cases hg : gd ((bs s).drop k) with
                        | false => rfl
                        | true =>
                          obtain ⟨-, -, hk3⟩ := piece_good (c := s[k]) (r := r) (by rw [← HR.out]; exact hg)
                          rw [← HR.out, HZ.out, hX] at hk3
                          rcases rgd_yes hk3 with ⟨e2, -⟩ | ⟨e2, -⟩ | e2 <;> rw [e1] at e2 <;> cases e2
                      have hN := hide (HI.out.bad hc.out HB'.out h35.out hg)
                      rw [e1] at HKP
                      clear hg hX e1 hdd
                      exfalso; omega
                · have hjs : ¬ ((k + j : Nat) : Int) < (s.size : Int) := by omega
                  obtain ⟨X, hX⟩ : ∃ X, ((bs s).drop k).take j = X := ⟨_, rfl⟩
                  have hP : s.extract k (k + j) = sB X := by rw [← sB_bs (s.extract k (k + j)), bs_mid, hX]
                  have hXl : X.length = j := by rw [← hX, List.length_take, List.length_drop, bs_len]; omega
                  have hXs : (sB X).size = j := by rw [← bs_len]; exact hXl
                  have HKP := hide fun w => rkind_any (sB X) w (by rw [hXs]; omega) (by rw [hXs]; unfold maxLen; omega)
                  have HNP := hide fun w => rnumber_any (sB X) w (by rw [hXs]; unfold maxLen; omega)
                  have HWP := hide fun w => rword_any (sB X) w (by rw [hXs]; unfold maxLen; omega)
                  rw [bs_sB] at HKP HNP HWP
                  have HXl := hide hXl
                  clear hXl hXs
                  cases h33 : ((s[k].toNat : Int) == 33) with
                  | false =>
                    cases hg : gd ((bs s).drop k) with
                    | true =>
                      obtain ⟨hk1, hk2, hk3⟩ := piece_good (c := s[k]) (r := r) (by rw [← HR.out]; exact hg)
                      rw [← HR.out, HZ.out, hX] at hk1 hk3
                      rw [← HR.out, HZ.out] at hk2
                      have HI2 := hide (HI.out.tok hc.out HB'.out h35.out hg)
                      rw [← hk2, hX, ← hk1] at HI2
                      clear hk1 hk2 hg hX
                      rcases rgd_yes hk3 with ⟨e1, e2⟩ | ⟨e1, e2⟩ | e1
                      · rw [e1] at HKP HI2
                        rw [e2] at HNP
                        clear e1 e2 hk3
                        go_wp2_with fail
                        refine (HKP.out _).mono ?_
                        rintro e w3 ⟨rfl, rfl⟩
                        go_wp2_with fail
                        refine (HNP.out _).mono ?_
                        rintro e w3 ⟨rfl, rfl⟩
                        rename World => w8
                        have HN8 := hide (HasC.new w8 49 (tc 1 (sB X) k))
                        go_wp2_with (at_builtin; refine list_tok rfl _ _ rfl rfl (HE.out.alloc _) w8.heap.size ⟨1, X, k⟩ rfl HN8.out (by omega) ?_; intro g cap w9 hE9 hsz9)
                        go_roundg (s.size - (k + j))
                        case measure => omega
                        case rel => exact ⟨k + j, n + 1, _, by omega, by omega, by go_num, hide hE9, HI2⟩
                      · rw [e1] at HKP HI2
                        rw [e2] at HWP
                        clear e1 e2 hk3
                        go_wp2_with fail
                        refine (HKP.out _).mono ?_
                        rintro e w3 ⟨rfl, rfl⟩
                        go_wp2_with fail
                        refine (HNP.out _).mono ?_
                        rintro e w3 ⟨rfl, rfl⟩
                        go_wp2_with fail
                        refine (HWP.out _).mono ?_
                        rintro e w3 ⟨rfl, rfl⟩
                        rename World => w8
                        have HN8 := hide (HasC.new w8 49 (tc 2 (sB X) k))
                        go_wp2_with (at_builtin; refine list_tok rfl _ _ rfl rfl (HE.out.alloc _) w8.heap.size ⟨2, X, k⟩ rfl HN8.out (by omega) ?_; intro g cap w9 hE9 hsz9)
                        go_roundg (s.size - (k + j))
                        case measure => omega
                        case rel => exact ⟨k + j, n + 1, _, by omega, by omega, by go_num, hide hE9, HI2⟩
                      · rw [e1] at HKP HI2
                        clear e1 hk3
                        go_wp2_with fail
                        refine (HKP.out _).mono ?_
                        rintro e w3 ⟨rfl, rfl⟩
                        go_wp2_with fail
                        refine (HNP.out _).mono ?_
                        rintro e w3 ⟨rfl, rfl⟩
                        rename World => w8
                        have HN8 := hide (HasC.new w8 49 (tc 3 (sB X) k))
                        go_wp2_with (at_builtin; refine list_tok rfl _ _ rfl rfl (HE.out.alloc _) w8.heap.size ⟨3, X, k⟩ rfl HN8.out (by omega) ?_; intro g cap w9 hE9 hsz9)
                        go_roundg (s.size - (k + j))
                        case measure => omega
                        case rel => exact ⟨k + j, n + 1, _, by omega, by omega, by go_num, hide hE9, HI2⟩
                    | false =>
                      have hk3 := piece_bad (c := s[k]) (r := r) (by rw [← HR.out]; exact hg)
                      rw [← HR.out, HZ.out, hX] at hk3
                      have hN := hide (HI.out.bad hc.out HB'.out h35.out hg)
                      clear hg hX
                      rcases rgd_no hk3 with e1 | ⟨e1, e2⟩ | ⟨e1, e2⟩
                      · rw [e1] at HKP
                        clear e1 hk3
                        go_wp2_with fail
                        refine (HKP.out _).mono ?_
                        rintro e w3 ⟨rfl, rfl⟩
                        go_wp2_with fail
                        refine (HNP.out _).mono ?_
                        rintro e w3 ⟨rfl, rfl⟩
                        go_wp2_with fail
                        go_ret2
                        exact .inl ⟨htk.out.trans hN.out, rfl, HE.out.bel⟩
                      · rw [e1] at HKP
                        rw [e2] at HNP
                        clear e1 e2 hk3
                        go_wp2_with fail
                        refine (HKP.out _).mono ?_
                        rintro e w3 ⟨rfl, rfl⟩
                        go_wp2_with fail
                        refine (HNP.out _).mono ?_
                        rintro e w3 ⟨rfl, rfl⟩
                        go_wp2_with fail
                        go_ret2
                        exact .inl ⟨htk.out.trans hN.out, rfl, HE.out.bel⟩
                      · rw [e1] at HKP
                        rw [e2] at HWP
                        clear e1 e2 hk3
                        go_wp2_with fail
                        refine (HKP.out _).mono ?_
                        rintro e w3 ⟨rfl, rfl⟩
                        go_wp2_with fail
                        refine (HNP.out _).mono ?_
                        rintro e w3 ⟨rfl, rfl⟩
                        go_wp2_with fail
                        refine (HWP.out _).mono ?_
                        rintro e w3 ⟨rfl, rfl⟩
                        go_wp2_with fail
                        go_ret2
                        exact .inl ⟨htk.out.trans hN.out, rfl, HE.out.bel⟩
                  | true =>
                    have hk33 := eq_of_nat (n := 33) h33 33 rfl
                    by_cases hk1 : k + 1 < s.size
                    · have hc1 := bs_at hk1
                      have hdd : (bs s).drop k = 33 :: s[k + 1] :: (bs s).drop (k + 1 + 1) := by rw [drop_cons hc.out, drop_cons hc1, hk33]
                      cases h61 : ((s[k + 1].toNat : Int) == 61) with
                      | true =>
                        have hk61 := eq_of_nat (n := 61) h61 61 rfl
                        rw [hk61] at hdd
                        have hz2 : j = 2 := by rw [← HZ.out, hdd]; exact ez_bang _
                        have hX2 : X = [33, 61] := by rw [← hX, hdd, hz2]; rfl
                        have hg : gd ((bs s).drop k) = true := by
                          rw [hdd]
                          simp [gd, kd, sz, mk, may, two, D, A, dg, lt]
                        obtain ⟨hk1', hk2, hk3⟩ := piece_good (c := s[k]) (r := r) (by rw [← HR.out]; exact hg)
                        rw [← HR.out, HZ.out, hX] at hk1'
                        rw [← HR.out, HZ.out] at hk2
                        have HI2 := hide (HI.out.tok hc.out HB'.out h35.out hg)
                        have e1 : rk X = 3 := by rw [hX2]; decide
                        rw [← hk2, hX, ← hk1', e1] at HI2
                        rw [e1] at HKP
                        clear hk1' hk2 hk3 hg hX hX2 e1 hdd hk61 hc1
                        subst hz2
                        go_wp2_with fail
                        refine (HKP.out _).mono ?_
                        rintro e w3 ⟨rfl, rfl⟩
                        go_wp2_with fail
                        refine (HNP.out _).mono ?_
                        rintro e w3 ⟨rfl, rfl⟩
                        rename World => w8
                        have HN8 := hide (HasC.new w8 49 (tc 3 (sB X) k))
                        go_wp2_with (at_builtin; refine list_tok rfl _ _ rfl rfl (HE.out.alloc _) w8.heap.size ⟨3, X, k⟩ rfl HN8.out (by omega) ?_; intro g cap w9 hE9 hsz9)
                        go_roundg (s.size - (k + 2))
                        case measure => omega
                        case rel => exact ⟨k + 2, n + 1, _, by omega, by omega, by go_num, hide hE9, HI2⟩
                      | false =>
                        have hk61 := ne_of_nat (n := 61) h61 61 rfl
                        have hz1 : j = 1 := by
                          rw [← HZ.out, hdd, ez_mark (by decide) (by decide), if_neg (by simp [two, hk61])]
                        have e1 : rk X = 0 := by rw [← hX, hdd, hz1]; show rk [33] = 0; decide
                        have hg : gd ((bs s).drop k) = false := by
                          cases hg : gd ((bs s).drop k) with
                          | false => rfl
                          | true =>
                            obtain ⟨-, -, hk3⟩ := piece_good (c := s[k]) (r := r) (by rw [← HR.out]; exact hg)
                            rw [← HR.out, HZ.out, hX] at hk3
                            rcases rgd_yes hk3 with ⟨e2, -⟩ | ⟨e2, -⟩ | e2 <;> rw [e1] at e2 <;> cases e2
                        have hN := hide (HI.out.bad hc.out HB'.out h35.out hg)
                        rw [e1] at HKP
                        clear hg hX e1 hdd hk61 hc1
                        exfalso; omega
                    · have hdd : (bs s).drop k = [33] := by rw [drop_cons hc.out, hk33, List.drop_of_length_le (by rw [bs_len]; omega)]
                      have hz1 : j = 1 := by omega
                      have e1 : rk X = 0 := by rw [← hX, hdd, hz1]; decide
                      have hg : gd ((bs s).drop k) = false := by
                        cases hg : gd ((bs s).drop k) with
                        | false => rfl
                        | true =>
                          obtain ⟨-, -, hk3⟩ := piece_good (c := s[k]) (r := r) (by rw [← HR.out]; exact hg)
                          rw [← HR.out, HZ.out, hX] at hk3
                          rcases rgd_yes hk3 with ⟨e2, -⟩ | ⟨e2, -⟩ | e2 <;> rw [e1] at e2 <;> cases e2
                      have hN := hide (HI.out.bad hc.out HB'.out h35.out hg)
                      rw [e1] at HKP
                      clear hg hX e1 hdd hz1
                      go_wp2_with fail
                      refine (HKP.out _).mono ?_
                      rintro e w3 ⟨rfl, rfl⟩
                      go_wp2_with fail
                      refine (HNP.out _).mono ?_
                      rintro e w3 ⟨rfl, rfl⟩
                      go_wp2_with fail
                      go_ret2
                      exact .inl ⟨htk.out.trans hN.out, rfl, HE.out.bel⟩
      · go_wp2
        go_ret2
        have hT := HI.out.ends (by rw [bs_len]; omega)
        have hE := HE.out
        exact .inr ⟨T, _, htk.out.trans hT, rfl, by rw [hE.len]; exact hE.a, hE.bel⟩

end Go.Proofs.Ytamekjocchekoaa
