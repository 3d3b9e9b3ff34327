/-
  Marks, numbers and words: what a text is. Memory untouched.
-/
import Derived.Test.YtamekjocchekoaaLow2
namespace Go.Proofs.Ytamekjocchekoaa
open Go.RowKit Go.IntWalk Lx
set_option linter.unusedVariables false

theorem ret_pair {a b : Int} {c d : Bool} (h : a = b) (h' : c = d) : Ending.returned (.tuple #[.int .i64 a, .bool c]) = .returned (.tuple #[.int .i64 b, .bool d]) := by rw [h, h']

def ixv (c : UInt8) : Int := Lib.indexByte sh c
theorem index_iff : ∀ (l : List UInt8) (c : UInt8), (0 ≤ Lib.indexByte l c ↔ l.contains c = true)
  | [], c => by simp [Lib.indexByte]
  | b :: l, c => by
    have ih := index_iff l c
    have hg := Lib.indexByte_ge l c
    rw [List.contains_cons]
    unfold Lib.indexByte
    by_cases h : b = c
    · subst h; simp
    · have h1 : (b == c) = false := by simp [h]
      have h2 : (c == b) = false := by simp; exact fun e => h e.symm
      rw [h1, h2]
      simp only [Bool.false_eq_true, if_false, Bool.false_or]
      by_cases h3 : Lib.indexByte l c = -1
      · rw [h3] at ih
        simp [h3] at ih ⊢
        exact ih
      · simp only [beq_iff_eq, h3, if_false]
        rw [← ih]
        omega
theorem ixv_yes {c : UInt8} (h : sh.contains c = true) : 0 ≤ ixv c := (index_iff sh c).2 h
theorem ixv_no {c : UInt8} (h : sh.contains c = false) : ixv c < 0 := by
  have := index_iff sh c
  rw [h] at this
  have : ¬ 0 ≤ Lib.indexByte sh c := by simpa using this
  unfold ixv
  omega
theorem six_sh (c : UInt8) (w : World) :
    Calls Try.prog 85 #[.string shS, .int .u8 (c.toNat : Nat)] w fun e w' => e = .returned (.int .i64 (ixv c)) ∧ w' = w := by
  have h := six_any shS (c.toNat : Nat) w
  rw [Lib.byte_back] at h
  exact h

theorem bs_cons {s : ByteArray} (h : 0 < s.size) : ∃ t, bs s = s[0] :: t := by
  have h1 := bs_at h
  cases hb : bs s with
  | nil => rw [hb] at h1; simp at h1
  | cons a t => rw [hb] at h1; simp at h1; exact ⟨t, by rw [h1]⟩
theorem bs_head {s : ByteArray} (h : 0 < s.size) : (bs s).headD 0 = s[0] := by
  obtain ⟨t, ht⟩ := bs_cons h
  rw [ht]; rfl
theorem bs_two (s : ByteArray) : (s.extract 0 2).toList = (bs s).take 2 := by
  rw [ByteArray.toList_eq]
  simp [ByteArray.data_extract]
theorem bs_nil {s : ByteArray} (h : s.size = 0) : s = ⟨#[]⟩ := ByteArray.ext (Array.eq_empty_of_size_eq_zero h)

set_option maxHeartbeats 1000000 in
theorem mark_any (s : ByteArray) (w : World) (h0 : 0 < s.size) (hs : s.size ≤ maxLen) :
    Calls Try.prog 74 #[.string s] w fun e w' => e = .returned (.int .i64 (mk (bs s))) ∧ w' = w := by
  unfold maxLen at hs
  obtain ⟨t, ht⟩ := bs_cons h0
  have hh := hide (bs_head h0)
  have H2 : 1 < s.size ∨ two.contains ((bs s).take 2) = false := by
    by_cases h : 1 < s.size
    · exact .inl h
    · right
      have hl : (bs s).length = 1 := by rw [bs_len]; omega
      cases t with
      | nil => rw [ht]; simp [two]
      | cons a t => rw [ht] at hl; simp at hl
  clear ht t
  have hT := bs_two s
  cases hm : two.contains ((bs s).take 2) with
  | true =>
    have h1 : 1 < s.size := by
      rcases H2 with h | h
      · exact h
      · rw [h] at hm; cases hm
    have hr : mk (bs s) = 2 := by unfold mk; rw [if_pos hm]
    rw [hr]
    clear H2 hr
    rcases contains_two hm with h | h | h | h | h | h <;>
    · rw [h] at hT
      clear h hm
      go_enter Try.func74, Try.ntmps74
      go_wp2
      go_ret
      exact ⟨rfl, rfl⟩
  | false =>
    have hr : mk (bs s) = if sh.contains s[0] then 1 else 0 := by unfold mk; rw [if_neg (by rw [hm]; simp), hh.out]
    have hr' := hide hr
    clear hr
    obtain ⟨T, hTT⟩ : ∃ T, (bs s).take 2 = T := ⟨_, rfl⟩
    rw [hTT] at hT hm
    clear hTT
    have hn : (T == [60, 61]) = false ∧ (T == [62, 61]) = false ∧ (T == [61, 61]) = false ∧ (T == [33, 61]) = false ∧ (T == [60, 60]) = false ∧ (T == [62, 62]) = false := by
      simp [two] at hm
      simpa using hm
    obtain ⟨n1, n2, n3, n4, n5, n6⟩ := hn
    clear hm H2
    cases hc : sh.contains s[0] with
    | true =>
      have hx := ixv_yes hc
      by_cases h1 : 1 < s.size <;>
      · go_enter Try.func74, Try.ntmps74
        go_wp2_with (go_at_call 85; refine (six_sh _ _).mono ?_; rintro e w' ⟨rfl, rfl⟩)
        go_ret
        exact ⟨ret_int (by rw [hr'.out, hc]; rfl), rfl⟩
    | false =>
      have hx := ixv_no hc
      by_cases h1 : 1 < s.size <;>
      · go_enter Try.func74, Try.ntmps74
        go_wp2_with (go_at_call 85; refine (six_sh _ _).mono ?_; rintro e w' ⟨rfl, rfl⟩)
        go_ret
        exact ⟨ret_int (by rw [hr'.out, hc]; rfl), rfl⟩

set_option maxHeartbeats 1000000 in
theorem word_any (s : ByteArray) (w : World) (hs : s.size ≤ maxLen) :
    Calls Try.prog 14 #[.string s] w fun e w' => e = .returned (.bool (wrd (bs s))) ∧ w' = w := by
  by_cases h0 : s.size = 0
  · obtain rfl := bs_nil h0
    go_enter Try.func14, Try.ntmps14
    go_wp2
    go_ret
    exact ⟨rfl, rfl⟩
  · have h0' : 0 < s.size := by omega
    have hE : (s.toList == []) = false := by
      rw [ByteArray.toList_eq]
      obtain ⟨t, ht⟩ := bs_cons h0'
      rw [show s.data.toList = _ from ht]; rfl
    have hW := hide (show wrd (bs s) = (decide (s.size ≤ 16) && lt s[0].toNat && (bs s).all W) by
      unfold wrd
      rw [bs_len, bs_head h0']
      obtain ⟨t, ht⟩ := bs_cons h0'
      rw [ht]; rfl)
    have hl := hide (rn_len W (bs s))
    rw [bs_len] at hl
    have hs' := hide hs
    unfold maxLen at hs
    by_cases h1 : s.size ≤ 16
    · cases hc : lt s[0].toNat with
      | true =>
        go_enter Try.func14, Try.ntmps14
        go_wp2_with (first | (go_at_call 28; refine (letter_any _ _).mono ?_; rintro e w' ⟨rfl, rfl⟩) | (go_at_call 29; refine (run_within _ _ hs'.out).mono ?_; rintro e w' ⟨rfl, rfl⟩))
        go_ret
        exact ⟨ret_bool (by rw [hW.out, hc, hl.out]; simp [h1]), rfl⟩
      | false =>
        go_enter Try.func14, Try.ntmps14
        go_wp2_with (go_at_call 28; refine (letter_any _ _).mono ?_; rintro e w' ⟨rfl, rfl⟩)
        go_ret
        exact ⟨ret_bool (by rw [hW.out, hc]; simp), rfl⟩
    · go_enter Try.func14, Try.ntmps14
      go_wp2
      go_ret
      exact ⟨ret_bool (by rw [hW.out]; simp [h1]), rfl⟩

set_option maxHeartbeats 1000000 in
theorem rword_any (s : ByteArray) (w : World) (hs : s.size ≤ maxLen) :
    Calls Try.prog 39 #[.string s] w fun e w' => e = .returned (.bool (wrd (bs s))) ∧ w' = w := by
  by_cases h0 : s.size = 0
  · obtain rfl := bs_nil h0
    go_enter Try.func39, Try.ntmps39
    go_wp2
    go_ret
    exact ⟨rfl, rfl⟩
  · have h0' : 0 < s.size := by omega
    have hW := hide (show wrd (bs s) = (decide (s.size ≤ 16) && lt s[0].toNat && aW (bs s)) by
      unfold wrd
      rw [bs_len, bs_head h0']
      obtain ⟨t, ht⟩ := bs_cons h0'
      rw [ht]; rfl)
    have hs' := hide hs
    unfold maxLen at hs
    by_cases h1 : s.size ≤ 16
    · cases hc : lt s[0].toNat with
      | true =>
        go_enter Try.func39, Try.ntmps39
        go_wp2_with (first | (go_at_call 46; refine (among_letters _ _).mono ?_; rintro e w' ⟨rfl, rfl⟩) | (go_at_call 57; refine (all_within _ _ hs'.out).mono ?_; rintro e w' ⟨rfl, rfl⟩))
        go_ret
        exact ⟨ret_bool (by rw [hW.out, hc]; simp [h1]), rfl⟩
      | false =>
        go_enter Try.func39, Try.ntmps39
        go_wp2_with (go_at_call 46; refine (among_letters _ _).mono ?_; rintro e w' ⟨rfl, rfl⟩)
        go_ret
        exact ⟨ret_bool (by rw [hW.out, hc]; simp), rfl⟩
    · go_enter Try.func39, Try.ntmps39
      go_wp2
      go_ret
      exact ⟨ret_bool (by rw [hW.out]; simp [h1]), rfl⟩

end Go.Proofs.Ytamekjocchekoaa
