/-
  Texts: which bytes stand in them, their marks. Memory untouched.
-/
import Derived.Test.YtodgjjkpbcadoaaGreatDoorLow
namespace Go.Proofs.YtodgjjkpbcadoaaGreatDoor
open Go.RowKit Go.IntWalk Lx
set_option linter.unusedVariables false

theorem amg_snoc {c : Int} {l : List UInt8} {k : Nat} {b : UInt8} (h : amg c (l.take k) = false) (hb : l[k]? = some b) (hn : ((b.toNat : Int) == c) = false) : amg c (l.take (k + 1)) = false := by
  rw [List.take_add_one, hb]
  unfold amg at h ⊢
  rw [List.any_append, h]
  simp [hn]
theorem amg_yes {c : Int} {l : List UInt8} {k : Nat} {b : UInt8} (hb : l[k]? = some b) (hn : ((b.toNat : Int) == c) = true) : amg c l = true := by
  unfold amg
  rw [List.any_eq_true]
  exact ⟨b, List.mem_of_getElem? hb, hn⟩

set_option maxHeartbeats 1000000 in
theorem among_any (c : Int) (s : ByteArray) (w : World) (hs : s.size ≤ maxLen) :
    Calls Tryz.prog 49 #[.int .u8 c, .string s] w fun e w' => e = .returned (.bool (amg c (bs s))) ∧ w' = w := by
  unfold maxLen at hs
  go_enter Tryz.func49, Tryz.ntmps49
  go_wp2
  go_loop [5] (fun i => ∃ k : Nat, k ≤ s.size ∧ i = .int .i64 k ∧ Hid (amg c ((bs s).take k) = false)) (fun i => s.size - (intOf i).toNat)
  case atStart => exact ⟨0, Nat.zero_le _, rfl, hide rfl⟩
  case round =>
    obtain ⟨k, hk, rfl, ha⟩ := hrel
    by_cases hlt : k < s.size
    · have hc := hide (bs_at hlt)
      cases hd : ((s[k].toNat : Int) == c) with
      | true =>
        go_wp2
        go_ret
        exact ⟨ret_bool (amg_yes hc.out hd).symm, rfl⟩
      | false =>
        go_wp2
        go_round
        case rel => exact ⟨k + 1, by omega, by go_num, hide (amg_snoc ha.out hc.out hd)⟩
        case measure => simp [intOf]; omega
    · go_wp2
      go_ret
      exact ⟨ret_bool (by have := ha.out; rw [List.take_of_length_le (by rw [bs_len]; omega)] at this; exact this.symm), rfl⟩

def allOf (l m : List UInt8) : Bool := l.all fun b => amg b.toNat m

set_option maxHeartbeats 1000000 in
theorem all_any (s m : ByteArray) (w : World) (hs : s.size ≤ maxLen) (hm : m.size ≤ maxLen) :
    Calls Tryz.prog 50 #[.string s, .string m] w fun e w' => e = .returned (.bool (allOf (bs s) (bs m))) ∧ w' = w := by
  have hm' := hide hm
  clear hm
  unfold maxLen at hs
  go_enter Tryz.func50, Tryz.ntmps50
  go_wp2
  go_loop [5] (fun i => ∃ k : Nat, k ≤ s.size ∧ i = .int .i64 k ∧ Hid (allOf ((bs s).take k) (bs m) = true)) (fun i => s.size - (intOf i).toNat)
  case atStart => exact ⟨0, Nat.zero_le _, rfl, hide rfl⟩
  case round =>
    obtain ⟨k, hk, rfl, ha⟩ := hrel
    by_cases hlt : k < s.size
    · have hc := hide (bs_at hlt)
      cases hd : amg (s[k].toNat) (bs m) with
      | true =>
        go_wp2_with (go_at_call 49; refine (among_any _ _ _ hm'.out).mono ?_; rintro e w' ⟨rfl, rfl⟩)
        go_round
        case rel => exact ⟨k + 1, by omega, by go_num, hide (all_snoc (p := fun b => amg b.toNat (bs m)) ha.out hc.out hd)⟩
        case measure => simp [intOf]; omega
      | false =>
        go_wp2_with (go_at_call 49; refine (among_any _ _ _ hm'.out).mono ?_; rintro e w' ⟨rfl, rfl⟩)
        go_ret
        exact ⟨ret_bool (all_not (p := fun b => amg b.toNat (bs m)) hc.out hd).symm, rfl⟩
    · go_wp2
      go_ret
      exact ⟨ret_bool (by have := ha.out; rw [List.take_of_length_le (by rw [bs_len]; omega)] at this; exact this.symm), rfl⟩

abbrev dgS : ByteArray := ⟨#[48, 49, 50, 51, 52, 53, 54, 55, 56, 57]⟩
abbrev ltS : ByteArray := ⟨#[97, 98, 99, 100, 101, 102, 103, 104, 105, 106, 107, 108, 109, 110, 111, 112, 113, 114, 115, 116, 117, 118, 119, 120, 121, 122]⟩
abbrev wiS : ByteArray := ⟨#[97, 98, 99, 100, 101, 102, 103, 104, 105, 106, 107, 108, 109, 110, 111, 112, 113, 114, 115, 116, 117, 118, 119, 120, 121, 122, 48, 49, 50, 51, 52, 53, 54, 55, 56, 57, 95]⟩
abbrev shS : ByteArray := ⟨#[43, 45, 42, 47, 37, 40, 41, 44, 59, 61, 63, 58, 60, 62, 38, 124, 94]⟩
abbrev blS : ByteArray := ⟨#[32, 9, 10]⟩

def inSh (c : Int) : Bool := amg c sh
def inBl (c : Int) : Bool := amg c [32, 9, 10]

theorem all_digits (s : ByteArray) (w : World) (hs : s.size ≤ maxLen) : Calls Tryz.prog 50 #[.string s, .string dgS] w fun e w' => e = .returned (.bool (aD (bs s))) ∧ w' = w := by
  have h := all_any s dgS w hs (by decide)
  rw [show allOf (bs s) (bs dgS) = aD (bs s) by unfold allOf aD; congr 1; funext b; exact amg_dgs _] at h
  exact h
theorem all_within (s : ByteArray) (w : World) (hs : s.size ≤ maxLen) : Calls Tryz.prog 50 #[.string s, .string wiS] w fun e w' => e = .returned (.bool (aW (bs s))) ∧ w' = w := by
  have h := all_any s wiS w hs (by decide)
  rw [show allOf (bs s) (bs wiS) = aW (bs s) by unfold allOf aW; congr 1; funext b; exact amg_wis _] at h
  exact h
theorem among_letters (c : Int) (w : World) : Calls Tryz.prog 49 #[.int .u8 c, .string ltS] w fun e w' => e = .returned (.bool (lt c)) ∧ w' = w := by
  have h := among_any c ltS w (by decide)
  rw [show amg c (bs ltS) = lt c from amg_lts c] at h
  exact h
theorem among_marks (c : Int) (w : World) : Calls Tryz.prog 49 #[.int .u8 c, .string shS] w fun e w' => e = .returned (.bool (inSh c)) ∧ w' = w := among_any c shS w (by decide)
theorem among_blanks (c : Int) (w : World) : Calls Tryz.prog 49 #[.int .u8 c, .string blS] w fun e w' => e = .returned (.bool (inBl c)) ∧ w' = w := among_any c blS w (by decide)

/- strings.IndexByte -/

set_option maxRecDepth 100000 in
theorem iix_any (s : ByteArray) (c : Int) (w : World) :
    Calls Tryz.prog 94 #[.string s, .int .u8 c] w fun e w' => e = .returned (.int .i64 (Lib.indexByte (bs s) c.toNat.toUInt8)) ∧ w' = w := by
  go_enter Tryz.func94, Tryz.ntmps94
  go_wp2
  rw [run_callFunc_extern Tryz.func102 (by kernel_rfl) (by kernel_rfl) (by kernel_rfl) (e := Extern.BytealgIndexByte.indexByte) (by kernel_rfl), Lib.run_indexByteString]
  simp only [Result.andThen]
  rw [Oper.upon_value]
  go_wp2
  go_ret
  exact ⟨rfl, rfl⟩

theorem six_any (s : ByteArray) (c : Int) (w : World) :
    Calls Tryz.prog 88 #[.string s, .int .u8 c] w fun e w' => e = .returned (.int .i64 (Lib.indexByte (bs s) c.toNat.toUInt8)) ∧ w' = w := by
  go_enter Tryz.func88, Tryz.ntmps88
  go_wp2_with (go_at_call 94; refine (iix_any _ _ _).mono ?_; rintro e w' ⟨rfl, rfl⟩)
  go_ret
  exact ⟨rfl, rfl⟩

end Go.Proofs.YtodgjjkpbcadoaaGreatDoor

/-
  Marks, numbers and words: what a text is. Memory untouched.
-/
namespace Go.Proofs.YtodgjjkpbcadoaaGreatDoor
open Go.RowKit Go.IntWalk Lx
set_option linter.unusedVariables false

theorem ret_pair {a b : Int} {c d : Bool} (h : a = b) (h' : c = d) : Ending.returned (.tuple #[.int .i64 a, .bool c]) = .returned (.tuple #[.int .i64 b, .bool d]) := by rw [h, h']

def ixv (c : UInt8) : Int := Lib.indexByte sh c
theorem index_iff : ∀ (l : List UInt8) (c : UInt8), (0 ≤ Lib.indexByte l c ↔ l.contains c = true)
  | [], c => by simp [Lib.indexByte]
  | b :: l, c => by
    have ih := index_iff l c
    have hg := Lib.indexByte_ge l c
    rw [List.contains_cons]
    unfold Lib.indexByte
    by_cases h : b = c
    · subst h; simp
    · have h1 : (b == c) = false := by simp [h]
      have h2 : (c == b) = false := by simp; exact fun e => h e.symm
      rw [h1, h2]
      simp only [Bool.false_eq_true, if_false, Bool.false_or]
      by_cases h3 : Lib.indexByte l c = -1
      · rw [h3] at ih
        simp [h3] at ih ⊢
        exact ih
      · simp only [beq_iff_eq, h3, if_false]
        rw [← ih]
        omega
theorem ixv_yes {c : UInt8} (h : sh.contains c = true) : 0 ≤ ixv c := (index_iff sh c).2 h
theorem ixv_no {c : UInt8} (h : sh.contains c = false) : ixv c < 0 := by
  have := index_iff sh c
  rw [h] at this
  have : ¬ 0 ≤ Lib.indexByte sh c := by simpa using this
  unfold ixv
  omega
theorem six_sh (c : UInt8) (w : World) :
    Calls Tryz.prog 88 #[.string shS, .int .u8 (c.toNat : Nat)] w fun e w' => e = .returned (.int .i64 (ixv c)) ∧ w' = w := by
  have h := six_any shS (c.toNat : Nat) w
  rw [Lib.byte_back] at h
  exact h

theorem bs_cons {s : ByteArray} (h : 0 < s.size) : ∃ t, bs s = s[0] :: t := by
  have h1 := bs_at h
  cases hb : bs s with
  | nil => rw [hb] at h1; simp at h1
  | cons a t => rw [hb] at h1; simp at h1; exact ⟨t, by rw [h1]⟩
theorem bs_head {s : ByteArray} (h : 0 < s.size) : (bs s).headD 0 = s[0] := by
  obtain ⟨t, ht⟩ := bs_cons h
  rw [ht]; rfl
theorem bs_two (s : ByteArray) : (s.extract 0 2).toList = (bs s).take 2 := by
  rw [ByteArray.toList_eq]
  simp [ByteArray.data_extract]
theorem bs_nil {s : ByteArray} (h : s.size = 0) : s = ⟨#[]⟩ := ByteArray.ext (Array.eq_empty_of_size_eq_zero h)

set_option maxHeartbeats 1000000 in
theorem mark_any (s : ByteArray) (w : World) (h0 : 0 < s.size) (hs : s.size ≤ maxLen) :
    Calls Tryz.prog 81 #[.string s] w fun e w' => e = .returned (.int .i64 (mk (bs s))) ∧ w' = w := by
  unfold maxLen at hs
  obtain ⟨t, ht⟩ := bs_cons h0
  have hh := hide (bs_head h0)
  have H2 : 1 < s.size ∨ two.contains ((bs s).take 2) = false := by
    by_cases h : 1 < s.size
    · exact .inl h
    · right
      have hl : (bs s).length = 1 := by rw [bs_len]; omega
      cases t with
      | nil => rw [ht]; simp [two]
      | cons a t => rw [ht] at hl; simp at hl
  clear ht t
  have hT := bs_two s
  cases hm : two.contains ((bs s).take 2) with
  | true =>
    have h1 : 1 < s.size := by
      rcases H2 with h | h
      · exact h
      · rw [h] at hm; cases hm
    have hr : mk (bs s) = 2 := by unfold mk; rw [if_pos hm]
    rw [hr]
    clear H2 hr
    rcases contains_two hm with h | h | h | h | h | h <;>
    · rw [h] at hT
      clear h hm
      go_enter Tryz.func81, Tryz.ntmps81
      go_wp2
      go_ret
      exact ⟨rfl, rfl⟩
  | false =>
    have hr : mk (bs s) = if sh.contains s[0] then 1 else 0 := by unfold mk; rw [if_neg (by rw [hm]; simp), hh.out]
    have hr' := hide hr
    clear hr
    obtain ⟨T, hTT⟩ : ∃ T, (bs s).take 2 = T := ⟨_, rfl⟩
    rw [hTT] at hT hm
    clear hTT
    have hn : (T == [60, 61]) = false ∧ (T == [62, 61]) = false ∧ (T == [61, 61]) = false ∧ (T == [33, 61]) = false ∧ (T == [60, 60]) = false ∧ (T == [62, 62]) = false := by
      simp [two] at hm
      simpa using hm
    obtain ⟨n1, n2, n3, n4, n5, n6⟩ := hn
    clear hm H2
    cases hc : sh.contains s[0] with
    | true =>
      have hx := ixv_yes hc
      by_cases h1 : 1 < s.size <;>
      · go_enter Tryz.func81, Tryz.ntmps81
        go_wp2_with (go_at_call 88; refine (six_sh _ _).mono ?_; rintro e w' ⟨rfl, rfl⟩)
        go_ret
        exact ⟨ret_int (by rw [hr'.out, hc]; rfl), rfl⟩
    | false =>
      have hx := ixv_no hc
      by_cases h1 : 1 < s.size <;>
      · go_enter Tryz.func81, Tryz.ntmps81
        go_wp2_with (go_at_call 88; refine (six_sh _ _).mono ?_; rintro e w' ⟨rfl, rfl⟩)
        go_ret
        exact ⟨ret_int (by rw [hr'.out, hc]; rfl), rfl⟩

set_option maxHeartbeats 1000000 in
theorem word_any (s : ByteArray) (w : World) (hs : s.size ≤ maxLen) :
    Calls Tryz.prog 40 #[.string s] w fun e w' => e = .returned (.bool (wrd (bs s))) ∧ w' = w := by
  by_cases h0 : s.size = 0
  · obtain rfl := bs_nil h0
    go_enter Tryz.func40, Tryz.ntmps40
    go_wp2
    go_ret
    exact ⟨rfl, rfl⟩
  · have h0' : 0 < s.size := by omega
    have hE : (s.toList == []) = false := by
      rw [ByteArray.toList_eq]
      obtain ⟨t, ht⟩ := bs_cons h0'
      rw [show s.data.toList = _ from ht]; rfl
    have hW := hide (show wrd (bs s) = (decide (s.size ≤ 16) && lt s[0].toNat && (bs s).all W) by
      unfold wrd
      rw [bs_len, bs_head h0']
      obtain ⟨t, ht⟩ := bs_cons h0'
      rw [ht]; rfl)
    have hl := hide (rn_len W (bs s))
    rw [bs_len] at hl
    have hs' := hide hs
    unfold maxLen at hs
    by_cases h1 : s.size ≤ 16
    · cases hc : lt s[0].toNat with
      | true =>
        go_enter Tryz.func40, Tryz.ntmps40
        go_wp2_with (first | (go_at_call 61; refine (letter_any _ _).mono ?_; rintro e w' ⟨rfl, rfl⟩) | (go_at_call 62; refine (run_within _ _ hs'.out).mono ?_; rintro e w' ⟨rfl, rfl⟩))
        go_ret
        exact ⟨ret_bool (by rw [hW.out, hc, hl.out]; simp [h1]), rfl⟩
      | false =>
        go_enter Tryz.func40, Tryz.ntmps40
        go_wp2_with (go_at_call 61; refine (letter_any _ _).mono ?_; rintro e w' ⟨rfl, rfl⟩)
        go_ret
        exact ⟨ret_bool (by rw [hW.out, hc]; simp), rfl⟩
    · go_enter Tryz.func40, Tryz.ntmps40
      go_wp2
      go_ret
      exact ⟨ret_bool (by rw [hW.out]; simp [h1]), rfl⟩

set_option maxHeartbeats 1000000 in
theorem rword_any (s : ByteArray) (w : World) (hs : s.size ≤ maxLen) :
    Calls Tryz.prog 24 #[.string s] w fun e w' => e = .returned (.bool (wrd (bs s))) ∧ w' = w := by
  by_cases h0 : s.size = 0
  · obtain rfl := bs_nil h0
    go_enter Tryz.func24, Tryz.ntmps24
    go_wp2
    go_ret
    exact ⟨rfl, rfl⟩
  · have h0' : 0 < s.size := by omega
    have hW := hide (show wrd (bs s) = (decide (s.size ≤ 16) && lt s[0].toNat && aW (bs s)) by
      unfold wrd
      rw [bs_len, bs_head h0']
      obtain ⟨t, ht⟩ := bs_cons h0'
      rw [ht]; rfl)
    have hs' := hide hs
    unfold maxLen at hs
    by_cases h1 : s.size ≤ 16
    · cases hc : lt s[0].toNat with
      | true =>
        go_enter Tryz.func24, Tryz.ntmps24
        go_wp2_with (first | (go_at_call 49; refine (among_letters _ _).mono ?_; rintro e w' ⟨rfl, rfl⟩) | (go_at_call 50; refine (all_within _ _ hs'.out).mono ?_; rintro e w' ⟨rfl, rfl⟩))
        go_ret
        exact ⟨ret_bool (by rw [hW.out, hc]; simp [h1]), rfl⟩
      | false =>
        go_enter Tryz.func24, Tryz.ntmps24
        go_wp2_with (go_at_call 49; refine (among_letters _ _).mono ?_; rintro e w' ⟨rfl, rfl⟩)
        go_ret
        exact ⟨ret_bool (by rw [hW.out, hc]; simp), rfl⟩
    · go_enter Tryz.func24, Tryz.ntmps24
      go_wp2
      go_ret
      exact ⟨ret_bool (by rw [hW.out]; simp [h1]), rfl⟩

end Go.Proofs.YtodgjjkpbcadoaaGreatDoor

/-
  Numbers, and the document's kind of a piece. Memory untouched.
-/
namespace Go.Proofs.YtodgjjkpbcadoaaGreatDoor
open Go.RowKit Go.IntWalk Lx
set_option linter.unusedVariables false

theorem toList_ne {s : ByteArray} (h : 0 < s.size) : (s.toList == []) = false := by
  rw [ByteArray.toList_eq]
  obtain ⟨t, ht⟩ := bs_cons h
  rw [show s.data.toList = _ from ht]; rfl

/-- One zero, or it does not begin with one. -/
theorem zero_form {s : ByteArray} (h : 0 < s.size) : ((bs s).headD 0 == 48 && decide (1 < (bs s).length)) = (((s[0].toNat : Int) == 48) && !(s.toList == [48])) := by
  rw [ByteArray.toList_eq, bs_head h]
  obtain ⟨t, ht⟩ := bs_cons h
  rw [show s.data.toList = _ from ht, ht]
  by_cases h48 : s[0] = 48
  · rw [h48]
    cases t with
    | nil => rfl
    | cons a t => simp
  · have h2 : ¬ (s[0].toNat : Int) = 48 := fun e => h48 (UInt8.toNat_inj.1 (by simp; omega))
    rw [beq_eq_false_iff_ne.2 h48, beq_eq_false_iff_ne.2 h2]
    rfl

set_option maxHeartbeats 2000000 in
theorem number_any (s : ByteArray) (w : World) (hs : s.size ≤ maxLen) :
    Calls Tryz.prog 83 #[.string s] w fun e w' => e = .returned (.tuple #[.int .i64 (nv (bs s)), .bool (num (bs s))]) ∧ w' = w := by
  unfold maxLen at hs
  by_cases h0 : s.size = 0
  · obtain rfl := bs_nil h0
    go_enter Tryz.func83, Tryz.ntmps83
    go_wp2
    go_ret2
    exact ⟨rfl, rfl⟩
  · have h0' : 0 < s.size := by omega
    have hE := toList_ne h0'
    have hz := hide (zero_form h0')
    by_cases hb : ((s[0].toNat : Int) == 48) = true ∧ (s.toList == [48]) = false
    · obtain ⟨h1, h2⟩ := hb
      have hn : num (bs s) = false := by unfold num; rw [hz.out, h1, h2]; simp
      rw [nv_no hn, hn]
      clear hn
      go_enter Tryz.func83, Tryz.ntmps83
      go_wp2
      go_ret2
      exact ⟨rfl, rfl⟩
    · have hz2 := hide (show ((bs s).headD 0 == 48 && decide (1 < (bs s).length)) = false by
        rw [hz.out]
        cases h1 : ((s[0].toNat : Int) == 48)
        · rfl
        · cases h2 : (s.toList == [48])
          · exact absurd ⟨h1, h2⟩ hb
          · rfl)
      have hne := hide (show bs s ≠ [] by
        obtain ⟨t, ht⟩ := bs_cons h0'
        rw [ht]; simp)
      have ways : ((s[0].toNat : Int) == 48) = false ∨ (((s[0].toNat : Int) == 48) = true ∧ (s.toList == [48]) = true) := by
        cases h1 : ((s[0].toNat : Int) == 48)
        · exact .inl rfl
        · cases h2 : (s.toList == [48])
          · exact absurd ⟨h1, h2⟩ hb
          · exact .inr ⟨rfl, rfl⟩
      clear hb hz
      rcases ways with h1 | ⟨h1, h2⟩
      all_goals
        go_enter Tryz.func83, Tryz.ntmps83
        go_wp2
        go_loop [4, 19] (fun n i => ∃ k : Nat, ∃ V : Int, k ≤ s.size ∧ i = .int .i64 k ∧ n = .int .i64 V ∧ 0 ≤ V ∧ V ≤ 2147483647 ∧ Hid (V = vl ((bs s).take k)) ∧ Hid (((bs s).take k).all D = true)) (fun _ i => s.size - (intOf i).toNat)
        case atStart => exact ⟨0, 0, Nat.zero_le _, rfl, rfl, by omega, by omega, hide rfl, hide (by simp)⟩
        case round =>
          obtain ⟨k, V, hk, rfl, rfl, hV0, hV1, hV, ha⟩ := hrel
          by_cases hlt : k < s.size
          · have hc := hide (bs_at hlt)
            cases hd : dg (s[k].toNat) with
            | false =>
              go_wp2_with (go_at_call 79; refine (digit_any _ _).mono ?_; rintro e w' ⟨rfl, rfl⟩)
              go_ret2
              have hn := num_no hc.out hd
              exact ⟨ret_pair (nv_no hn).symm hn.symm, rfl⟩
            | true =>
              obtain ⟨b1, b2⟩ := D_iff.1 hd
              have hv := hide (vl_take hc.out)
              rw [← hV.out] at hv
              by_cases hbig : 10 * V + ((s[k].toNat : Int) - 48) ≤ 2147483647
              · go_wp2_with (go_at_call 79; refine (digit_any _ _).mono ?_; rintro e w' ⟨rfl, rfl⟩)
                go_round
                case rel => exact ⟨k + 1, _, by omega, by go_num, rfl, by omega, by omega, hide hv.out.symm, hide (all_snoc ha.out hc.out hd)⟩
                case measure => simp [intOf]; omega
              · have hbig' : 2147483647 < 10 * V + ((s[k].toNat : Int) - 48) := by omega
                clear hbig
                go_wp2_with (go_at_call 79; refine (digit_any _ _).mono ?_; rintro e w' ⟨rfl, rfl⟩)
                go_ret2
                have hn := num_big (l := bs s) (k := k + 1) (by rw [hv.out]; exact hbig')
                exact ⟨ret_pair (nv_no hn).symm hn.symm, rfl⟩
          · go_wp2
            go_ret2
            have he : (bs s).take k = bs s := List.take_of_length_le (by rw [bs_len]; omega)
            rw [he] at hV ha
            have hn := num_yes hne.out ha.out hz2.out (by rw [← hV.out]; omega)
            exact ⟨ret_pair (by rw [nv_yes hn]; exact hV.out) hn.symm, rfl⟩

end Go.Proofs.YtodgjjkpbcadoaaGreatDoor

/-
  The document's kind of a piece. Memory untouched.
-/
namespace Go.Proofs.YtodgjjkpbcadoaaGreatDoor
open Go.RowKit Go.IntWalk Lx
set_option linter.unusedVariables false

theorem toList_bs (s : ByteArray) : s.toList = bs s := ByteArray.toList_eq s
theorem inSh_eq (c : UInt8) : inSh c.toNat = sh.contains c := amg_sh c
theorem inBl_eq (c : UInt8) : inBl c.toNat = bl c := amg_bl c

end Go.Proofs.YtodgjjkpbcadoaaGreatDoor
