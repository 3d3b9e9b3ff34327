/-
  The document's kind of a piece. Memory untouched.
-/
import Derived.Test.YtamekjocchekoaaLow4
namespace Go.Proofs.Ytamekjocchekoaa
open Go.RowKit Go.IntWalk Lx
set_option linter.unusedVariables false

theorem toList_bs (s : ByteArray) : s.toList = bs s := ByteArray.toList_eq s
theorem inSh_eq (c : UInt8) : inSh c.toNat = sh.contains c := amg_sh c
theorem inBl_eq (c : UInt8) : inBl c.toNat = bl c := amg_bl c

set_option maxHeartbeats 4000000 in
theorem rkind_any (s : ByteArray) (w : World) (h0 : 0 < s.size) (hs : s.size ≤ maxLen) :
    Calls Try.prog 47 #[.string s] w fun e w' => e = .returned (.int .i64 (rk (bs s))) ∧ w' = w := by
  have hs' := hide hs
  unfold maxLen at hs
  cases hD : aD (bs s) with
  | true =>
    rw [show rk (bs s) = 1 by unfold rk; rw [if_pos hD]]
    go_enter Try.func47, Try.ntmps47
    go_wp2_with (go_at_call 57; refine (all_digits _ _ hs'.out).mono ?_; rintro e w' ⟨rfl, rfl⟩)
    go_ret
    exact ⟨rfl, rfl⟩
  | false =>
    have hA : A ((bs s).headD 0) = lt s[0].toNat := by rw [bs_head h0]; rfl
    by_cases h2 : lt s[0].toNat = true ∧ aW (bs s) = true
    · obtain ⟨h2, h3⟩ := h2
      rw [show rk (bs s) = 2 by unfold rk; rw [if_neg (by simp [hD]), if_pos (by rw [hA, h2, h3]; rfl)]]
      clear hA
      go_enter Try.func47, Try.ntmps47
      go_wp2_with fail
      refine (all_digits _ _ hs'.out).mono ?_
      rintro e w' ⟨rfl, rfl⟩
      go_wp2_with fail
      refine (among_letters _ _).mono ?_
      rintro e w' ⟨rfl, rfl⟩
      go_wp2_with fail
      refine (all_within _ _ hs'.out).mono ?_
      rintro e w' ⟨rfl, rfl⟩
      go_wp2_with fail
      go_ret
      exact ⟨rfl, rfl⟩
    · have H2 : lt s[0].toNat = false ∨ (lt s[0].toNat = true ∧ aW (bs s) = false) := by
        cases h : lt s[0].toNat
        · exact .inl rfl
        · cases h' : aW (bs s)
          · exact .inr ⟨rfl, rfl⟩
          · exact absurd ⟨h, h'⟩ h2
      have hr : rk (bs s) = if (decide (s.size = 1) && inSh s[0].toNat) || two.contains (bs s) then 3 else 0 := by
        unfold rk
        rw [if_neg (by simp [hD]), if_neg (by rw [hA]; rcases H2 with h | ⟨h, h'⟩ <;> simp [h]; simp [h']), bs_len, bs_head h0, inSh_eq]
      clear hA h2
      cases hm : two.contains (bs s) with
      | true =>
        rw [hm] at hr
        rw [show rk (bs s) = 3 by rw [hr, Bool.or_true]; rfl]
        have hz : s.size = 2 := by
          rw [← bs_len]
          rcases contains_two hm with h | h | h | h | h | h <;> rw [h] <;> rfl
        have hT := toList_bs s
        clear hr
        rcases contains_two hm with h | h | h | h | h | h
        all_goals
          rw [h] at hT
          clear h hm
          rcases H2 with h2 | ⟨h2, h3⟩
          · go_enter Try.func47, Try.ntmps47
            go_wp2_with fail
            refine (all_digits _ _ hs'.out).mono ?_
            rintro e w' ⟨rfl, rfl⟩
            go_wp2_with fail
            refine (among_letters _ _).mono ?_
            rintro e w' ⟨rfl, rfl⟩
            go_wp2_with fail
            go_ret
            exact ⟨rfl, rfl⟩
          · go_enter Try.func47, Try.ntmps47
            go_wp2_with fail
            refine (all_digits _ _ hs'.out).mono ?_
            rintro e w' ⟨rfl, rfl⟩
            go_wp2_with fail
            refine (among_letters _ _).mono ?_
            rintro e w' ⟨rfl, rfl⟩
            go_wp2_with fail
            refine (all_within _ _ hs'.out).mono ?_
            rintro e w' ⟨rfl, rfl⟩
            go_wp2_with fail
            go_ret
            exact ⟨rfl, rfl⟩
      | false =>
        rw [hm, Bool.or_false] at hr
        have hT := toList_bs s
        have hr' := hide hr
        clear hr
        obtain ⟨T, hTT⟩ : ∃ T, bs s = T := ⟨_, rfl⟩
        have hn : (T == [60, 61]) = false ∧ (T == [62, 61]) = false ∧ (T == [61, 61]) = false ∧ (T == [33, 61]) = false ∧ (T == [60, 60]) = false ∧ (T == [62, 62]) = false := by
          rw [hTT] at hm
          simp [two] at hm
          simpa using hm
        rw [hTT] at hT
        have hTT' := hide hTT
        clear hTT hm
        obtain ⟨n1, n2, n3, n4, n5, n6⟩ := hn
        by_cases h1 : s.size = 1
        · cases h3 : inSh s[0].toNat with
          | true =>
            rcases H2 with h2 | ⟨h2, h4⟩
            · go_enter Try.func47, Try.ntmps47
              go_wp2_with fail
              refine (all_digits _ _ hs'.out).mono ?_
              rintro e w' ⟨rfl, rfl⟩
              go_wp2_with fail
              refine (among_letters _ _).mono ?_
              rintro e w' ⟨rfl, rfl⟩
              go_wp2_with fail
              refine (among_marks _ _).mono ?_
              rintro e w' ⟨rfl, rfl⟩
              go_wp2_with fail
              go_ret
              exact ⟨ret_int (by rw [hr'.out, h3]; simp [h1]), rfl⟩
            · go_enter Try.func47, Try.ntmps47
              go_wp2_with fail
              refine (all_digits _ _ hs'.out).mono ?_
              rintro e w' ⟨rfl, rfl⟩
              go_wp2_with fail
              refine (among_letters _ _).mono ?_
              rintro e w' ⟨rfl, rfl⟩
              go_wp2_with fail
              refine (all_within _ _ hs'.out).mono ?_
              rintro e w' ⟨rfl, rfl⟩
              go_wp2_with fail
              refine (among_marks _ _).mono ?_
              rintro e w' ⟨rfl, rfl⟩
              go_wp2_with fail
              go_ret
              exact ⟨ret_int (by rw [hr'.out, h3]; simp [h1]), rfl⟩
          | false =>
            rcases H2 with h2 | ⟨h2, h4⟩
            · go_enter Try.func47, Try.ntmps47
              go_wp2_with fail
              refine (all_digits _ _ hs'.out).mono ?_
              rintro e w' ⟨rfl, rfl⟩
              go_wp2_with fail
              refine (among_letters _ _).mono ?_
              rintro e w' ⟨rfl, rfl⟩
              go_wp2_with fail
              refine (among_marks _ _).mono ?_
              rintro e w' ⟨rfl, rfl⟩
              go_wp2_with fail
              go_ret
              exact ⟨ret_int (by rw [hr'.out, h3]; simp [h1]), rfl⟩
            · go_enter Try.func47, Try.ntmps47
              go_wp2_with fail
              refine (all_digits _ _ hs'.out).mono ?_
              rintro e w' ⟨rfl, rfl⟩
              go_wp2_with fail
              refine (among_letters _ _).mono ?_
              rintro e w' ⟨rfl, rfl⟩
              go_wp2_with fail
              refine (all_within _ _ hs'.out).mono ?_
              rintro e w' ⟨rfl, rfl⟩
              go_wp2_with fail
              refine (among_marks _ _).mono ?_
              rintro e w' ⟨rfl, rfl⟩
              go_wp2_with fail
              go_ret
              exact ⟨ret_int (by rw [hr'.out, h3]; simp [h1]), rfl⟩
        · have h1' : ((s.size : Int) == 1) = false := by simp; omega
          rcases H2 with h2 | ⟨h2, h4⟩
          · go_enter Try.func47, Try.ntmps47
            go_wp2_with fail
            refine (all_digits _ _ hs'.out).mono ?_
            rintro e w' ⟨rfl, rfl⟩
            go_wp2_with fail
            refine (among_letters _ _).mono ?_
            rintro e w' ⟨rfl, rfl⟩
            go_wp2_with fail
            go_ret
            exact ⟨ret_int (by rw [hr'.out]; simp [h1]), rfl⟩
          · go_enter Try.func47, Try.ntmps47
            go_wp2_with fail
            refine (all_digits _ _ hs'.out).mono ?_
            rintro e w' ⟨rfl, rfl⟩
            go_wp2_with fail
            refine (among_letters _ _).mono ?_
            rintro e w' ⟨rfl, rfl⟩
            go_wp2_with fail
            refine (all_within _ _ hs'.out).mono ?_
            rintro e w' ⟨rfl, rfl⟩
            go_wp2_with fail
            go_ret
            exact ⟨ret_int (by rw [hr'.out]; simp [h1]), rfl⟩

end Go.Proofs.Ytamekjocchekoaa
