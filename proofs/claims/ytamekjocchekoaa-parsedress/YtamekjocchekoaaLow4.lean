/-
  Numbers, and the document's kind of a piece. Memory untouched.
-/
import Derived.Test.YtamekjocchekoaaLow3
namespace Go.Proofs.Ytamekjocchekoaa
open Go.RowKit Go.IntWalk Lx
set_option linter.unusedVariables false

theorem toList_ne {s : ByteArray} (h : 0 < s.size) : (s.toList == []) = false := by
  rw [ByteArray.toList_eq]
  obtain ⟨t, ht⟩ := bs_cons h
  rw [show s.data.toList = _ from ht]; rfl

/-- One zero, or it does not begin with one. -/
theorem zero_form {s : ByteArray} (h : 0 < s.size) : ((bs s).headD 0 == 48 && decide (1 < (bs s).length)) = (((s[0].toNat : Int) == 48) && !(s.toList == [48])) := by
  rw [ByteArray.toList_eq, bs_head h]
  obtain ⟨t, ht⟩ := bs_cons h
  rw [show s.data.toList = _ from ht, ht]
  by_cases h48 : s[0] = 48
  · rw [h48]
    cases t with
    | nil => rfl
    | cons a t => simp
  · have h2 : ¬ (s[0].toNat : Int) = 48 := fun e => h48 (UInt8.toNat_inj.1 (by simp; omega))
    rw [beq_eq_false_iff_ne.2 h48, beq_eq_false_iff_ne.2 h2]
    rfl

set_option maxHeartbeats 2000000 in
theorem number_any (s : ByteArray) (w : World) (hs : s.size ≤ maxLen) :
    Calls Try.prog 76 #[.string s] w fun e w' => e = .returned (.tuple #[.int .i64 (nv (bs s)), .bool (num (bs s))]) ∧ w' = w := by
  unfold maxLen at hs
  by_cases h0 : s.size = 0
  · obtain rfl := bs_nil h0
    go_enter Try.func76, Try.ntmps76
    go_wp2
    go_ret2
    exact ⟨rfl, rfl⟩
  · have h0' : 0 < s.size := by omega
    have hE := toList_ne h0'
    have hz := hide (zero_form h0')
    by_cases hb : ((s[0].toNat : Int) == 48) = true ∧ (s.toList == [48]) = false
    · obtain ⟨h1, h2⟩ := hb
      have hn : num (bs s) = false := by unfold num; rw [hz.out, h1, h2]; simp
      rw [nv_no hn, hn]
      clear hn
      go_enter Try.func76, Try.ntmps76
      go_wp2
      go_ret2
      exact ⟨rfl, rfl⟩
    · have hz2 := hide (show ((bs s).headD 0 == 48 && decide (1 < (bs s).length)) = false by
        rw [hz.out]
        cases h1 : ((s[0].toNat : Int) == 48)
        · rfl
        · cases h2 : (s.toList == [48])
          · exact absurd ⟨h1, h2⟩ hb
          · rfl)
      have hne := hide (show bs s ≠ [] by
        obtain ⟨t, ht⟩ := bs_cons h0'
        rw [ht]; simp)
      have ways : ((s[0].toNat : Int) == 48) = false ∨ (((s[0].toNat : Int) == 48) = true ∧ (s.toList == [48]) = true) := by
        cases h1 : ((s[0].toNat : Int) == 48)
        · exact .inl rfl
        · cases h2 : (s.toList == [48])
          · exact absurd ⟨h1, h2⟩ hb
          · exact .inr ⟨rfl, rfl⟩
      clear hb hz
      rcases ways with h1 | ⟨h1, h2⟩
      all_goals
        go_enter Try.func76, Try.ntmps76
        go_wp2
        go_loop [4, 19] (fun n i => ∃ k : Nat, ∃ V : Int, k ≤ s.size ∧ i = .int .i64 k ∧ n = .int .i64 V ∧ 0 ≤ V ∧ V ≤ 2147483647 ∧ Hid (V = vl ((bs s).take k)) ∧ Hid (((bs s).take k).all D = true)) (fun _ i => s.size - (intOf i).toNat)
        case atStart => exact ⟨0, 0, Nat.zero_le _, rfl, rfl, by omega, by omega, hide rfl, hide (by simp)⟩
        case round =>
          obtain ⟨k, V, hk, rfl, rfl, hV0, hV1, hV, ha⟩ := hrel
          by_cases hlt : k < s.size
          · have hc := hide (bs_at hlt)
            cases hd : dg (s[k].toNat) with
            | false =>
              go_wp2_with (go_at_call 52; refine (digit_any _ _).mono ?_; rintro e w' ⟨rfl, rfl⟩)
              go_ret2
              have hn := num_no hc.out hd
              exact ⟨ret_pair (nv_no hn).symm hn.symm, rfl⟩
            | true =>
              obtain ⟨b1, b2⟩ := D_iff.1 hd
              have hv := hide (vl_take hc.out)
              rw [← hV.out] at hv
              by_cases hbig : 10 * V + ((s[k].toNat : Int) - 48) ≤ 2147483647
              · go_wp2_with (go_at_call 52; refine (digit_any _ _).mono ?_; rintro e w' ⟨rfl, rfl⟩)
                go_round
                case rel => exact ⟨k + 1, _, by omega, by go_num, rfl, by omega, by omega, hide hv.out.symm, hide (all_snoc ha.out hc.out hd)⟩
                case measure => simp [intOf]; omega
              · have hbig' : 2147483647 < 10 * V + ((s[k].toNat : Int) - 48) := by omega
                clear hbig
                go_wp2_with (go_at_call 52; refine (digit_any _ _).mono ?_; rintro e w' ⟨rfl, rfl⟩)
                go_ret2
                have hn := num_big (l := bs s) (k := k + 1) (by rw [hv.out]; exact hbig')
                exact ⟨ret_pair (nv_no hn).symm hn.symm, rfl⟩
          · go_wp2
            go_ret2
            have he : (bs s).take k = bs s := List.take_of_length_le (by rw [bs_len]; omega)
            rw [he] at hV ha
            have hn := num_yes hne.out ha.out hz2.out (by rw [← hV.out]; omega)
            exact ⟨ret_pair (by rw [nv_yes hn]; exact hV.out) hn.symm, rfl⟩

set_option maxHeartbeats 2000000 in
theorem rnumber_any (s : ByteArray) (w : World) (hs : s.size ≤ maxLen) :
    Calls Try.prog 48 #[.string s] w fun e w' => e = .returned (.tuple #[.int .i64 (nv (bs s)), .bool (num (bs s))]) ∧ w' = w := by
  have hs' := hide hs
  unfold maxLen at hs
  by_cases h0 : s.size = 0
  · obtain rfl := bs_nil h0
    go_enter Try.func48, Try.ntmps48
    go_wp2
    go_ret2
    exact ⟨rfl, rfl⟩
  · have h0' : 0 < s.size := by omega
    cases hD : aD (bs s) with
    | false =>
      have hn : num (bs s) = false := by unfold num; rw [show (bs s).all D = false from hD]; simp
      rw [nv_no hn, hn]
      clear hn
      go_enter Try.func48, Try.ntmps48
      go_wp2_with (go_at_call 57; refine (all_digits _ _ hs'.out).mono ?_; rintro e w' ⟨rfl, rfl⟩)
      go_ret2
      exact ⟨rfl, rfl⟩
    | true =>
      have hz : ((bs s).headD 0 == 48) = ((s[0].toNat : Int) == 48) := by
        rw [bs_head h0']
        by_cases h48 : s[0] = 48
        · rw [h48]; rfl
        · have h2 : ¬ (s[0].toNat : Int) = 48 := fun e => h48 (UInt8.toNat_inj.1 (by simp; omega))
          simp only [beq_eq_false_iff_ne.2 h48, beq_eq_false_iff_ne.2 h2]
      by_cases hb : ((s[0].toNat : Int) == 48) = true ∧ 1 < s.size
      · obtain ⟨h1, h2⟩ := hb
        have hn : num (bs s) = false := by unfold num; rw [hz, h1, bs_len]; simp [h2]
        rw [nv_no hn, hn]
        clear hn hz
        go_enter Try.func48, Try.ntmps48
        go_wp2_with (go_at_call 57; refine (all_digits _ _ hs'.out).mono ?_; rintro e w' ⟨rfl, rfl⟩)
        go_ret2
        exact ⟨rfl, rfl⟩
      · have hz2 := hide (show ((bs s).headD 0 == 48 && decide (1 < (bs s).length)) = false by
          rw [hz, bs_len]
          cases h1 : ((s[0].toNat : Int) == 48)
          · rfl
          · simp; exact Nat.le_of_not_lt fun h2 => hb ⟨h1, h2⟩)
        have hne := hide (show bs s ≠ [] by
          obtain ⟨t, ht⟩ := bs_cons h0'
          rw [ht]; simp)
        have ways : ((s[0].toNat : Int) == 48) = false ∨ (((s[0].toNat : Int) == 48) = true ∧ s.size = 1) := by
          cases h1 : ((s[0].toNat : Int) == 48)
          · exact .inl rfl
          · exact .inr ⟨rfl, by
              have : ¬ 1 < s.size := fun h2 => hb ⟨h1, h2⟩
              omega⟩
        clear hb hz
        have hA := hide (show ∀ k c, (bs s)[k]? = some c → D c = true by
          intro k c hc
          have := List.all_eq_true.1 (show (bs s).all D = true from hD) c (List.mem_of_getElem? hc)
          exact this)
        rcases ways with h1 | ⟨h1, h2⟩
        all_goals
          go_enter Try.func48, Try.ntmps48
          go_wp2_with (go_at_call 57; refine (all_digits _ _ hs'.out).mono ?_; rintro e w' ⟨rfl, rfl⟩)
          go_loop [4, 5] (fun n i => ∃ k : Nat, ∃ V : Int, k ≤ s.size ∧ i = .int .i64 k ∧ n = .int .i64 V ∧ 0 ≤ V ∧ V ≤ 2147483647 ∧ Hid (V = vl ((bs s).take k))) (fun _ i => s.size - (intOf i).toNat)
          case atStart => exact ⟨0, 0, Nat.zero_le _, rfl, rfl, by omega, by omega, hide rfl⟩
          case round =>
            obtain ⟨k, V, hk, rfl, rfl, hV0, hV1, hV⟩ := hrel
            by_cases hlt : k < s.size
            · have hc := hide (bs_at hlt)
              obtain ⟨b1, b2⟩ := D_iff.1 (hA.out _ _ hc.out)
              have hv := hide (vl_take hc.out)
              rw [← hV.out] at hv
              by_cases hbig : 10 * V + (s[k].toNat : Int) - 48 ≤ 2147483647
              · go_wp2
                go_round
                case rel => exact ⟨k + 1, _, by omega, by go_num, rfl, by omega, by omega, hide (by rw [hv.out]; omega)⟩
                case measure => simp [intOf]; omega
              · have hbig' : 2147483647 < 10 * V + (s[k].toNat : Int) - 48 := by omega
                clear hbig
                go_wp2
                go_ret2
                have hn := num_big (l := bs s) (k := k + 1) (by rw [hv.out]; omega)
                exact ⟨ret_pair (nv_no hn).symm hn.symm, rfl⟩
            · go_wp2
              go_ret2
              have he : (bs s).take k = bs s := List.take_of_length_le (by rw [bs_len]; omega)
              rw [he] at hV
              have hn := num_yes hne.out hD hz2.out (by rw [← hV.out]; omega)
              exact ⟨ret_pair (by rw [nv_yes hn]; exact hV.out) hn.symm, rfl⟩

end Go.Proofs.Ytamekjocchekoaa
