/-
  The walk of LexCover.
-/
import Derived.Test.YtnkdbkmghfmpgaaAwake
import Derived.Test.YtnkdbkmghfmpgaaPure3
namespace Go.Proofs.Ytnkdbkmghfmpgaa
open Go.RowKit Go.IntWalk Lx
set_option linter.unusedVariables false

theorem nat_ne {c : UInt8} {m : UInt8} (h : c ≠ m) (n : Nat) (hm : m.toNat = n) : ((c.toNat : Int) == (n : Int)) = false := by
  rw [beq_eq_false_iff_ne]
  intro e
  exact h (UInt8.toNat_inj.1 (by omega))

theorem drop_getD {T : List Tok} {j : Nat} (h : j < T.length) : T.drop j = T.getD j t0 :: T.drop (j + 1) := by
  rw [List.drop_eq_getElem_cons h]
  simp [List.getD, h]

theorem piece_eq {s : ByteArray} {A : Nat} {X rest : List UInt8} (h : (bs s).drop A = X ++ rest) : (s.extract A (A + X.length)).toList = X := by
  rw [ByteArray.toList_eq, ByteArray.data_extract]
  have : (s.data.extract A (A + X.length)).toList = ((bs s).drop A).take X.length := by
    simp
  rw [this, h, List.take_left]

set_option maxHeartbeats 16000000 in
set_option maxRecDepth 100000 in
theorem cover_walk (s : ByteArray) (w : World) :
    Calls Try.prog 5 #[.string s] w fun e w' => e = .returned (.bool true) ∧ Below w.heap.size w w' := by
  go_enter Try.func5, Try.ntmps5
  go_wp2_with fail
  refine (tokens_any _ _).mono ?_
  rintro e w1 (⟨-, rfl, hb⟩ | ⟨T, v, hT, rfl, ho, hb⟩)
  · have HB := hide hb
    clear hb
    go_wp2_with fail
    refine (awake_any _).mono ?_
    rintro e w2 ⟨rfl, hb2⟩
    have HB2 := hide (bel HB.out hb2)
    clear hb2
    go_wp2_with fail
    refine (awake_any _).mono ?_
    rintro e w3 ⟨rfl, hb3⟩
    have HB3 := hide (bel HB2.out hb3)
    clear hb3
    go_wp2_with fail
    go_ret
    exact ⟨rfl, HB3.out⟩
  · obtain ⟨hcov, hl⟩ := tks_cov hT
    rw [bs_len] at hl
    have hTl := cov_len T _ _ hcov
    rw [bs_len] at hTl
    have HT0 := hide hcov
    obtain ⟨n, hn⟩ : ∃ n, T.length = n := ⟨_, rfl⟩
    rw [hn] at ho hTl
    have Hn := hide hn
    have HB := hide hb
    have HO := hide ho
    clear hb ho hcov hn hT
    go_wp2_with fail
    refine (awake_any _).mono ?_
    rintro e w2 ⟨rfl, hb2⟩
    have HB2 := hide (bel HB.out hb2)
    have hg : w1.grownBy w2 none := ⟨hb2.os, hb2.tape, hb2.output, hb2.size, fun k hk _ => hb2.block k hk⟩
    obtain ⟨a, cap, rfl, hK, -⟩ := Toks.of_owns (HO.out.kept hg (by cases hv : v.ownBlock <;> simp))
    have HK := hide hK
    clear hb2 HB hg HO hK
    go_wp2_with fail
    go_loop [5, 6] (fun at_ i => ∃ j A : Nat, j ≤ n + 1 ∧ A ≤ s.size ∧ i = .int .i64 j ∧ at_ = .int .i64 A ∧ Hid (j ≤ n → Cov ((bs s).drop A) A (T.drop j))) (fun _ i => n + 1 - (intOf i).toNat)
    case atStart => exact ⟨0, 0, by omega, by omega, rfl, rfl, hide fun _ => HT0.out⟩
    case round =>
      obtain ⟨j, A, hj, hA, rfl, rfl, HC⟩ := hrel
      rcases (show j = n + 1 ∨ j = n ∨ j < n by omega) with rfl | hjq | hjn
      · have hne : ¬ ((n + 1 : Nat) : Int) ≤ (n : Int) := by omega
        go_wp2
        go_ret
        exact ⟨rfl, HB2.out⟩
      · have hjq' := hjq.symm
        subst hjq'
        clear hjq
        obtain ⟨r, hr⟩ : ∃ r, gp false ((bs s).drop A) = some r := by
          have h := HC.out (Nat.le_refl _)
          rw [show T.drop n = [] from List.drop_of_length_le (by rw [Hn.out]; exact Nat.le_refl _)] at h
          exact h
        obtain ⟨G, hGd⟩ : ∃ G, (bs s).drop A = G := ⟨_, rfl⟩
        rw [hGd] at hr
        have HG := hide hr
        have hGl : A + G.length = s.size := by rw [← hGd, List.length_drop, bs_len]; omega
        have HGt := hide (show ∀ m, m < G.length → (bs s)[A + m]? = G[m]? by intro m _; rw [← hGd, List.getElem?_drop])
        obtain ⟨N, hN⟩ : ∃ N, s.size = N := ⟨_, rfl⟩
        clear hr hGd HC
        go_wp2
        go_loop [8, 9] (fun rm i => ∃ q : Nat, ∃ b : Bool, A ≤ q ∧ q ≤ N ∧ i = .int .i64 q ∧ rm = .bool b ∧ Hid (gp false (G.take (q - A)) = some b)) (fun _ i => N - (intOf i).toNat)
        case atStart => exact ⟨A, false, Nat.le_refl _, by omega, rfl, rfl, hide (by rw [Nat.sub_self]; rfl)⟩
        case round =>
          obtain ⟨q, b, hq1, hq2, rfl, rfl, HGq⟩ := hrel
          by_cases hql : q < N
          · have hqs : q < s.size := by omega
            have hcq := hide (bs_at hqs)
            have hGq := hide (HGt.out (q - A) (by omega))
            rw [show A + (q - A) = q by omega, hcq.out] at hGq
            obtain ⟨b', hb', hw⟩ := gap_step HGq.out hGq.out.symm HG.out
            rw [show q - A + 1 = q + 1 - A by omega] at hb'
            have HB' := hide hb'
            clear hb' HGq
            rcases hw with ⟨rfl, hc, rfl⟩ | ⟨rfl, hc, rfl⟩ | ⟨rfl, hc, rfl⟩ | ⟨rfl, hc, rfl⟩ | ⟨rfl, hc, rfl⟩ | ⟨rfl, hc, rfl⟩
            · have hc' : (s[q].toNat : Int) = 10 := by rw [hc]; rfl
              clear hc
              go_wp2
              go_round
              case rel => exact ⟨q + 1, _, by omega, by omega, by go_num, rfl, HB'⟩
              case measure => simp [intOf]; omega
            · have hc' : ((s[q].toNat : Int) != 10) = true := by
                have h10 : ((s[q].toNat : Int) == 10) = false := nat_ne hc 10 rfl
                simp only [bne, h10, Bool.not_false]
              clear hc
              go_wp2
              go_round
              case rel => exact ⟨q + 1, _, by omega, by omega, by go_num, rfl, HB'⟩
              case measure => simp [intOf]; omega
            · have hc' : (s[q].toNat : Int) = 35 := by rw [hc]; rfl
              clear hc
              go_wp2
              go_round
              case rel => exact ⟨q + 1, _, by omega, by omega, by go_num, rfl, HB'⟩
              case measure => simp [intOf]; omega
            · have hc' : (s[q].toNat : Int) = 32 := by rw [hc]; rfl
              clear hc
              go_wp2
              go_round
              case rel => exact ⟨q + 1, _, by omega, by omega, by go_num, rfl, HB'⟩
              case measure => simp [intOf]; omega
            · have hc' : (s[q].toNat : Int) = 9 := by rw [hc]; rfl
              clear hc
              go_wp2
              go_round
              case rel => exact ⟨q + 1, _, by omega, by omega, by go_num, rfl, HB'⟩
              case measure => simp [intOf]; omega
            · have hc' : (s[q].toNat : Int) = 10 := by rw [hc]; rfl
              clear hc
              go_wp2
              go_round
              case rel => exact ⟨q + 1, _, by omega, by omega, by go_num, rfl, HB'⟩
              case measure => simp [intOf]; omega
          · obtain rfl : q = N := by omega
            cases b with
            | true =>
              go_wp2
              go_round
              case rel => exact ⟨n + 1, A, by omega, by omega, by go_num, rfl, hide (by omega)⟩
              case measure => first | (simp [intOf]; done) | (simp [intOf]; omega)
            | false =>
              go_wp2
              go_round
              case rel => exact ⟨n + 1, A, by omega, by omega, by go_num, rfl, hide (by omega)⟩
              case measure => first | (simp [intOf]; done) | (simp [intOf]; omega)
      · obtain ⟨g, rest, e, hp, hg, hf, hm, hc⟩ : Cov ((bs s).drop A) A (T.getD j t0 :: T.drop (j + 1)) := by
          have h := HC.out (by omega)
          rw [drop_getD (by rw [Hn.out]; exact hjn)] at h
          exact h
        rcases HK.out.cell with h | ⟨b0, off, rfl, hcells⟩
        · omega
        obtain ⟨c1, c2, c3⟩ := hcells j hjn
        clear c1 hcells
        obtain ⟨X, hX⟩ : ∃ X, (T.getD j t0).text = X := ⟨_, rfl⟩
        obtain ⟨N, hN⟩ : ∃ N, (T.getD j t0).pos = N := ⟨_, rfl⟩
        rw [hX] at c2 e hc
        rw [hX] at hm
        rw [hN] at c3 hp hc
        obtain ⟨G, hGd⟩ : ∃ G, g = G := ⟨_, rfl⟩
        rw [hGd] at e hp hg
        clear hGd hX hN hf HC
        have hXp : 0 < X.length := may_pos hm
        have hlen : G.length + (X.length + rest.length) = s.size - A := by
          have := congrArg List.length e
          simpa [bs_len] using this.symm
        have HG := hide hg
        have HGt := hide (show ∀ m, m < G.length → (bs s)[A + m]? = G[m]? by
          intro m hm
          rw [← List.getElem?_drop, e, List.getElem?_append_left hm])
        have hd2 : (bs s).drop N = X ++ rest := by
          rw [hp, ← List.drop_drop, e, List.drop_left]
        have hpc := piece_eq hd2
        have HC2 := hide (show j + 1 ≤ n → Cov ((bs s).drop (N + X.length)) (N + X.length) (T.drop (j + 1)) by
          intro _
          rw [← List.drop_drop, hd2, List.drop_left]
          exact hc)
        have hsz : (sB X).size = X.length := by simp [ByteArray.size]
        clear hg hm e hc hd2
        have hN1 : A ≤ N := by omega
        have hN2 : N + X.length ≤ s.size := by omega
        have hNl1 : N ≤ A + G.length := by omega
        have hNl2 : A + G.length ≤ N := by omega
        clear hp
        have hx0 : ((X.length : Int) == 0) = false := by rw [beq_eq_false_iff_ne]; omega
        have hx1 : (X.length : Int) ≤ (s.size : Int) - (N : Int) := by omega
        have hx2 : ¬ (s.size : Int) - (N : Int) < (X.length : Int) := by omega
        go_wp2
        go_loop [8, 9] (fun rm i => ∃ q : Nat, ∃ b : Bool, A ≤ q ∧ q ≤ N ∧ i = .int .i64 q ∧ rm = .bool b ∧ Hid (gp false (G.take (q - A)) = some b)) (fun _ i => N - (intOf i).toNat)
        case atStart => exact ⟨A, false, Nat.le_refl _, by omega, rfl, rfl, hide (by rw [Nat.sub_self]; rfl)⟩
        case round =>
          obtain ⟨q, b, hq1, hq2, rfl, rfl, HGq⟩ := hrel
          by_cases hql : q < N
          · have hqs : q < s.size := by omega
            have hcq := hide (bs_at hqs)
            have hGq := hide (HGt.out (q - A) (by omega))
            rw [show A + (q - A) = q by omega, hcq.out] at hGq
            obtain ⟨b', hb', hw⟩ := gap_step HGq.out hGq.out.symm HG.out
            rw [show q - A + 1 = q + 1 - A by omega] at hb'
            have HB' := hide hb'
            clear hb' HGq
            rcases hw with ⟨rfl, hc, rfl⟩ | ⟨rfl, hc, rfl⟩ | ⟨rfl, hc, rfl⟩ | ⟨rfl, hc, rfl⟩ | ⟨rfl, hc, rfl⟩ | ⟨rfl, hc, rfl⟩
            · have hc' : (s[q].toNat : Int) = 10 := by rw [hc]; rfl
              clear hc
              go_wp2
              go_round
              case rel => exact ⟨q + 1, _, by omega, by omega, by go_num, rfl, HB'⟩
              case measure => simp [intOf]; omega
            · have hc' : ((s[q].toNat : Int) != 10) = true := by
                have h10 : ((s[q].toNat : Int) == 10) = false := nat_ne hc 10 rfl
                simp only [bne, h10, Bool.not_false]
              clear hc
              go_wp2
              go_round
              case rel => exact ⟨q + 1, _, by omega, by omega, by go_num, rfl, HB'⟩
              case measure => simp [intOf]; omega
            · have hc' : (s[q].toNat : Int) = 35 := by rw [hc]; rfl
              clear hc
              go_wp2
              go_round
              case rel => exact ⟨q + 1, _, by omega, by omega, by go_num, rfl, HB'⟩
              case measure => simp [intOf]; omega
            · have hc' : (s[q].toNat : Int) = 32 := by rw [hc]; rfl
              clear hc
              go_wp2
              go_round
              case rel => exact ⟨q + 1, _, by omega, by omega, by go_num, rfl, HB'⟩
              case measure => simp [intOf]; omega
            · have hc' : (s[q].toNat : Int) = 9 := by rw [hc]; rfl
              clear hc
              go_wp2
              go_round
              case rel => exact ⟨q + 1, _, by omega, by omega, by go_num, rfl, HB'⟩
              case measure => simp [intOf]; omega
            · have hc' : (s[q].toNat : Int) = 10 := by rw [hc]; rfl
              clear hc
              go_wp2
              go_round
              case rel => exact ⟨q + 1, _, by omega, by omega, by go_num, rfl, HB'⟩
              case measure => simp [intOf]; omega
          · obtain rfl : q = N := by omega
            have hbf : b = false := by
              have h1 := HGq.out
              rw [List.take_of_length_le (by omega), HG.out] at h1
              exact (Option.some.inj h1).symm
            subst hbf
            go_wp2
            go_round
            case rel => exact ⟨j + 1, q + X.length, by omega, by omega, by go_num, by go_num, HC2⟩
            case measure => simp [intOf]; omega

theorem cover_walk' (s : ByteArray) (w : World) (hs : s.size ≤ maxLen) :
    Calls Try.prog 5 #[.string s] w fun e w' => e = .returned (.bool true) ∧ Below w.heap.size w w' := cover_walk s w

end Go.Proofs.Ytnkdbkmghfmpgaa
