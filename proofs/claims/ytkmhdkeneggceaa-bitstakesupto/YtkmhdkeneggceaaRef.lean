/-
  The walks of damaskref02.Plain and Ones, and of told: the bits that a step writes, by definition.
-/
import Derived.Test.YtkmhdkeneggceaaInts
namespace Go.Proofs.Ytkmhdkeneggceaa
open Go.RowKit Bt
set_option linter.unusedVariables false

theorem plain_list {n : Int} {d : Nat} {xs : List Value} (hl : xs.length = d) (h : ∀ t, t < d → xs[t]? = some (.int .i64 (n / 2 ^ (d - 1 - t) % 2))) : xs = i64s (binw n d) := by
  apply List.ext_getElem?
  intro t
  by_cases ht : t < d
  · rw [h t ht]; simp [binw, ht]
  · rw [List.getElem?_eq_none (by omega), List.getElem?_eq_none (by simp [binw_len]; omega)]

theorem div_zero_iff {n : Int} {d : Nat} (h0 : 0 ≤ n) : (n / 2 ^ d == 0) = decide (n < 2 ^ d) := by
  have hp : (0 : Int) < 2 ^ d := Int.pow_pos (by decide)
  by_cases h : n < 2 ^ d
  · rw [Int.ediv_eq_zero_of_lt h0 h]; simp [h]
  · have h2 : (n / 2 ^ d != 0) = true := ge_pow (.inr (by omega))
    have h3 : (n / 2 ^ d == 0) = false := by simpa [bne] using h2
    rw [h3]; simp [h]

set_option maxHeartbeats 1000000 in
theorem plain_any (n d : Int) (w : World) (hn1 : n ≤ 9223372036854775807) (b : Bool) (hb : b = decide (0 ≤ d ∧ d ≤ 32 ∧ 0 ≤ n ∧ n < 2 ^ d.toNat)) :
    Calls Try.prog 32 #[.int .i64 n, .int .i64 d] w fun e w' => ∃ v, e = .returned (.tuple #[v, .bool b]) ∧
      (b = true → w'.ownsRow w.heap.size 3 1 v d.toNat (i64s (binw n d.toNat))) ∧ Below w.heap.size w w' := by
  obtain ⟨i0, hi, hz0, hz1, hz2⟩ := info_parts info3
  by_cases h1 : d < 0
  · have hd : decide (0 ≤ d ∧ d ≤ 32 ∧ 0 ≤ n ∧ n < 2 ^ d.toNat) = false := decide_eq_false (by omega)
    rw [hd] at hb
    subst hb
    clear hd
    go_enter Try.func32, Try.ntmps32
    go_wp2_with fail
    go_ret2
    first | exact ⟨_, rfl, (fun h => by cases h), Below.refl _ _⟩ | exact ⟨_, rfl, Below.refl _ _⟩ | exact ⟨⟨_, rfl⟩, Below.refl _ _⟩
  · by_cases h2 : 32 < d
    · have hd : decide (0 ≤ d ∧ d ≤ 32 ∧ 0 ≤ n ∧ n < 2 ^ d.toNat) = false := decide_eq_false (by omega)
      rw [hd] at hb
      subst hb
      clear hd
      go_enter Try.func32, Try.ntmps32
      go_wp2_with fail
      go_ret2
      first | exact ⟨_, rfl, (fun h => by cases h), Below.refl _ _⟩ | exact ⟨_, rfl, Below.refl _ _⟩ | exact ⟨⟨_, rfl⟩, Below.refl _ _⟩
    · by_cases h3 : n < 0
      · have hd : decide (0 ≤ d ∧ d ≤ 32 ∧ 0 ≤ n ∧ n < 2 ^ d.toNat) = false := decide_eq_false (by omega)
        rw [hd] at hb
        subst hb
        clear hd
        go_enter Try.func32, Try.ntmps32
        go_wp2_with fail
        go_ret2
        first | exact ⟨_, rfl, (fun h => by cases h), Below.refl _ _⟩ | exact ⟨_, rfl, Below.refl _ _⟩ | exact ⟨⟨_, rfl⟩, Below.refl _ _⟩
      · obtain ⟨d, rfl⟩ := Int.eq_ofNat_of_zero_le (show 0 ≤ d by omega)
        have hd : decide (0 ≤ (d : Int) ∧ (d : Int) ≤ 32 ∧ 0 ≤ n ∧ n < 2 ^ (d : Int).toNat) = (n / 2 ^ d == 0) := by
          rw [div_zero_iff (by omega)]
          apply decide_eq_decide.2
          simp only [Int.toNat_natCast]
          omega
        rw [hd] at hb
        have HBb := hide hb
        simp only [Int.toNat_natCast]
        clear hd hb
        go_enter Try.func32, Try.ntmps32
        go_wp2_with (at_make; (refine wpList_make_full _ rfl _ _ 26 rfl w.heap.size 3 i0 (.int .i64 0) 1 Try.underlying26 hi hz0 hz1 .i64 .i64 (d : Int) (d : Int) d rfl rfl rfl rfl (by rw [hz2]; omega) (by unfold maxLen; omega) (Nat.le_refl _) ?_; intro w1 hown hgrow))
        have HO := hide hown
        have HB : Hid (Below w.heap.size w w1) := hide ((Below.refl _ _).grown hgrow (Nat.le_refl _) (fun k h => by cases h))
        clear hown hgrow
        go_loopw [0, 7] (fun x i wr => ∃ (j : Nat) (xs : List Value), j ≤ d ∧ i = .int .i64 ((j : Int) - 1) ∧ x = .int .i64 (n / 2 ^ (d - j)) ∧ wr.ownsRow w.heap.size 3 1 (.slice (some ⟨w.heap.size, 0, none⟩) d d) d xs ∧ (∀ t, j ≤ t → t < d → xs[t]? = some (.int .i64 (n / 2 ^ (d - 1 - t) % 2))) ∧ Below w.heap.size w wr)
          (fun _ i _ => (intOf i + 1).toNat)
        case atStart => exact ⟨d, _, Nat.le_refl _, by go_num, by simp, HO.out, fun t h1 h2 => absurd h1 (by omega), HB.out⟩
        case round =>
          obtain ⟨j, xs, hj, rfl, rfl, hown, hxs, hbel⟩ := hrel
          have hxl : xs.length = d := by simpa using hown.1
          have HX := hide hxs
          have HO2 := hide hown
          have HB2 := hide hbel
          clear hxs hown hbel HO HB
          have hq0 : 0 ≤ n / 2 ^ (d - j) := Int.ediv_nonneg (by omega) (Int.pow_nonneg (by decide))
          have hq1 : n / 2 ^ (d - j) ≤ n := Int.ediv_le_self _ (by omega)
          by_cases hj0 : j = 0
          · subst hj0
            have HE := hide (plain_list (n := n) hxl (fun t ht => HX.out t (by omega) ht))
            have HBb' : Hid ((n / 2 ^ (d - 0) == 0) = b) := hide (by rw [HBb.out, Nat.sub_zero])
            go_wp2_with fail
            go_ret2
            exact ⟨_, by rw [← HBb'.out]; rfl, fun _ => by rw [← HE.out]; exact HO2.out, HB2.out⟩
          · obtain ⟨i, rfl⟩ : ∃ i, j = i + 1 := ⟨j - 1, by omega⟩
            have c0 := HO2.out.cellAt i (by omega)
            rw [List.getElem?_eq_getElem (show i < xs.length by omega)] at c0
            have f0 := HO2.out.frozenAt i
            have HST := hide (HO2.out.stored i (.int .i64 (n / 2 ^ (d - (i + 1)) % 2)))
            have HD := hide (div_pow_succ n (d - (i + 1)))
            generalize hQ : n / 2 ^ (d - (i + 1)) = Q at *
            have ei : ((i + 1 : Nat) : Int) - 1 = (i : Int) := by omega
            rw [ei]
            go_wp2_with fail
            go_roundw
            case rel =>
              refine ⟨i, _, by omega, by go_num, ?_, HST.out.1, ?_, HB2.out.grown HST.out.2 HB2.out.size (fun k h => by cases h; exact Nat.le_refl _)⟩
              · rw [show d - i = d - (i + 1) + 1 by omega, HD.out]
              · intro t h1 h2
                by_cases e : t = i
                · subst e
                  rw [List.getElem?_set_self (by omega), show d - 1 - t = d - (t + 1) by omega, hQ]
                · rw [List.getElem?_set_ne (by omega)]; exact HX.out t (by omega) h2
            case measure => simp [intOf]

/-- An append of one number. -/
abbrev OwnI (B : Nat) (w : World) (v : Value) (xs : List Int) : Prop := w.ownsRow B 3 1 v xs.length (i64s xs)

theorem ownI_snoc {B : Nat} {w : World} {v : Value} {xs : List Int} {x : Int} (h : w.ownsRow B 3 1 v (xs.length + 1) (i64s xs ++ [.int .i64 x])) : OwnI B w v (xs ++ [x]) := by
  unfold OwnI
  rw [List.length_append]
  simpa using h

set_option maxHeartbeats 1000000 in
theorem refOnes_any (n d : Int) (w : World) (b : Bool) (hb : b = decide (0 ≤ d ∧ d ≤ 64 ∧ 0 ≤ n ∧ n ≤ d)) :
    Calls Try.prog 31 #[.int .i64 n, .int .i64 d] w fun e w' => ∃ v, e = .returned (.tuple #[v, .bool b]) ∧
      (b = true → OwnI w.heap.size w' v (runs n.toNat d.toNat)) ∧ Below w.heap.size w w' := by
  obtain ⟨i0, hi, hz0, hz1, hz2⟩ := info_parts info3
  by_cases h : 0 ≤ d ∧ d ≤ 64 ∧ 0 ≤ n ∧ n ≤ d
  · rw [decide_eq_true h] at hb
    subst hb
    obtain ⟨d, rfl⟩ := Int.eq_ofNat_of_zero_le h.1
    obtain ⟨n, rfl⟩ := Int.eq_ofNat_of_zero_le h.2.2.1
    have hk0 : ¬ (d : Int) < 0 := by omega
    have hk1 : ¬ (64 : Int) < (d : Int) := by omega
    have hn0 : ¬ (n : Int) < 0 := by omega
    have hn1 : ¬ (d : Int) < (n : Int) := by omega
    simp only [Int.toNat_natCast]
    clear h
    go_enter Try.func31, Try.ntmps31
    go_wp2_with fail
    go_loopw [6, 7] (fun v i wr => ∃ j : Nat, j ≤ n ∧ i = .int .i64 (j : Nat) ∧ OwnI w.heap.size wr v (List.replicate j 1) ∧ Below w.heap.size w wr) (fun _ i _ => n - (intOf i).toNat)
    case atStart => exact ⟨0, Nat.zero_le _, rfl, ⟨rfl, .inl ⟨rfl, rfl⟩⟩, Below.refl _ _⟩
    case round =>
      obtain ⟨j, hj, rfl, hown, hbel⟩ := hrel
      have HO := hide hown
      have HB := hide hbel
      have hsz := hbel.size
      clear hown hbel
      have hrl : (List.replicate j (1 : Int)).length = j := by simp
      by_cases hlt : j < n
      · have HOA := hide (owns_alloc HO.out (.cells #[.int .i64 1] 3))
        have HN := hide (one_news wr .i64 3 1)
        have h1c := one_one .i64 1
        go_wp2_with (at_builtin; refine wpList_append_own _ rfl _ _ 26 rfl w.heap.size 3 i0 (.int .i64 0) 1 8 Try.underlying26 hi hz0 hz1 hz2 rfl (by decide) u6 (List.replicate j (1 : Int)).length (i64s (List.replicate j 1)) rfl HOA.out ⟨wr.heap.size, 0, none⟩ 1 1 [.int .i64 1] rfl rfl (HN.out _ rfl) h1c (by unfold maxLen; omega) (by omega) (by simp; omega) ?_; intro v' w2 hown2 hgr2 _; have HO2 := hide (ownI_snoc hown2); have HB2 := hide (below_append HB.out hsz HO.out hgr2); clear hown2 hgr2)
        go_roundw
        case rel => exact ⟨j + 1, by omega, by go_num, by rw [replicate_snoc]; exact HO2.out, HB2.out⟩
        case measure => simp [intOf]; omega
      · obtain rfl : j = n := by omega
        by_cases hm : j < d
        · have HOA := hide (owns_alloc HO.out (.cells #[.int .i64 0] 3))
          have HN := hide (one_news wr .i64 3 0)
          have h1c := one_one .i64 0
          go_wp2_with (at_builtin; refine wpList_append_own _ rfl _ _ 26 rfl w.heap.size 3 i0 (.int .i64 0) 1 8 Try.underlying26 hi hz0 hz1 hz2 rfl (by decide) u6 (List.replicate j (1 : Int)).length (i64s (List.replicate j 1)) rfl HOA.out ⟨wr.heap.size, 0, none⟩ 1 1 [.int .i64 0] rfl rfl (HN.out _ rfl) h1c (by unfold maxLen; omega) (by omega) (by simp; omega) ?_; intro v' w2 hown2 hgr2 _; have HO2 := hide (ownI_snoc hown2); have HB2 := hide (below_append HB.out hsz HO.out hgr2); clear hown2 hgr2)
          go_ret2
          exact ⟨_, rfl, fun _ => by unfold runs; rw [if_pos hm]; exact HO2.out, HB2.out⟩
        · go_wp2_with fail
          go_ret2
          exact ⟨_, rfl, fun _ => by unfold runs; rw [if_neg hm, List.append_nil]; exact HO.out, HB.out⟩
  · rw [decide_eq_false h] at hb
    subst hb
    by_cases h1 : d < 0
    · go_enter Try.func31, Try.ntmps31
      go_wp2_with fail
      go_ret2
      first | exact ⟨_, rfl, (fun h => by cases h), Below.refl _ _⟩ | exact ⟨_, rfl, Below.refl _ _⟩ | exact ⟨⟨_, rfl⟩, Below.refl _ _⟩
    · by_cases h2 : 64 < d
      · go_enter Try.func31, Try.ntmps31
        go_wp2_with fail
        go_ret2
        first | exact ⟨_, rfl, (fun h => by cases h), Below.refl _ _⟩ | exact ⟨_, rfl, Below.refl _ _⟩ | exact ⟨⟨_, rfl⟩, Below.refl _ _⟩
      · by_cases h3 : n < 0
        · go_enter Try.func31, Try.ntmps31
          go_wp2_with fail
          go_ret2
          first | exact ⟨_, rfl, (fun h => by cases h), Below.refl _ _⟩ | exact ⟨_, rfl, Below.refl _ _⟩ | exact ⟨⟨_, rfl⟩, Below.refl _ _⟩
        · have h4 : d < n := by omega
          clear h
          go_enter Try.func31, Try.ntmps31
          go_wp2_with fail
          go_ret2
          first | exact ⟨_, rfl, (fun h => by cases h), Below.refl _ _⟩ | exact ⟨_, rfl, Below.refl _ _⟩ | exact ⟨⟨_, rfl⟩, Below.refl _ _⟩

theorem told_any (s : Stp) (w : World) (hn : s.n ≤ 9223372036854775807) :
    Calls Try.prog 10 #[.agg #[.bool s.o, .int .i64 s.n, .int .i64 s.d]] w fun e w' => ∃ v, e = .returned (.tuple #[v, .bool s.ok]) ∧ (s.ok = true → OwnI w.heap.size w' v s.made) ∧ Below w.heap.size w w' := by
  have HB : Hid (Below w.heap.size w (w.alloc (.cells #[.bool s.o, .int .i64 s.n, .int .i64 s.d] 30))) := hide ((Below.refl _ _).alloc (Nat.le_refl _) _)
  have hsz : w.heap.size ≤ (w.alloc (.cells #[.bool s.o, .int .i64 s.n, .int .i64 s.d] 30)).heap.size := by simp
  have HSZ := hide hsz
  clear hsz
  rcases Bool.eq_false_or_eq_true s.o with ho | ho
  · have HOK := hide (Stp.ok_ones ho)
    have HM : Hid (s.ok = true → s.made = runs s.n.toNat s.d.toNat) := hide (fun hk => by unfold Stp.made; rw [if_pos hk, if_pos ho])
    rw [ho] at HB HSZ ⊢
    clear ho
    generalize s.ok = ok at *
    go_enter Try.func10, Try.ntmps10
    go_wp2_with fail
    refine (refOnes_any s.n s.d _ ok HOK.out).mono ?_
    rintro e w1 ⟨v, rfl, hown, hbel⟩
    have HO : Hid (ok = true → OwnI w.heap.size w1 v s.made) := hide (fun hk => by
      rw [HM.out hk]
      obtain ⟨h1, h2⟩ := hown hk
      refine ⟨h1, ?_⟩
      rcases h2 with h2 | ⟨g, cap, cur, hv, hg, r⟩
      · exact .inl h2
      · exact .inr ⟨g, cap, cur, hv, Nat.le_trans HSZ.out hg, r⟩)
    have HB2 := hide (HB.out.trans (hbel.mono HSZ.out))
    clear hown hbel
    go_wp2_with fail
    go_ret2
    exact ⟨v, rfl, HO.out, HB2.out⟩
  · have HOK := hide (Stp.ok_plain ho)
    have HM : Hid (s.ok = true → s.made = binw s.n s.d.toNat) := hide (fun hk => by unfold Stp.made; rw [if_pos hk, if_neg (by simp [ho])])
    rw [ho] at HB HSZ ⊢
    clear ho
    generalize s.ok = ok at *
    go_enter Try.func10, Try.ntmps10
    go_wp2_with fail
    refine (plain_any s.n s.d _ hn ok HOK.out).mono ?_
    rintro e w1 ⟨v, rfl, hown, hbel⟩
    have HO : Hid (ok = true → OwnI w.heap.size w1 v s.made) := hide (fun hk => by
      rw [HM.out hk]
      unfold OwnI
      rw [binw_len]
      obtain ⟨h1, h2⟩ := hown hk
      refine ⟨h1, ?_⟩
      rcases h2 with h2 | ⟨g, cap, cur, hv, hg, r⟩
      · exact .inl h2
      · exact .inr ⟨g, cap, cur, hv, Nat.le_trans HSZ.out hg, r⟩)
    have HB2 := hide (HB.out.trans (hbel.mono HSZ.out))
    clear hown hbel
    go_wp2_with fail
    go_ret2
    exact ⟨v, rfl, HO.out, HB2.out⟩

end Go.Proofs.Ytkmhdkeneggceaa
