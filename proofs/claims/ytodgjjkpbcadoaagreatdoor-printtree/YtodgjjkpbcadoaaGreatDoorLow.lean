/-
  The small functions of package lex and of the document: bytes and runs of bytes. Memory untouched.
-/
import Derived.Test.YtodgjjkpbcadoaaGreatDoorChecked
import Derived.Test.YtodgjjkpbcadoaaGreatDoorPure
import Derived.WalkKit
import Derived.WalkSpells
import Derived.Lib.Bytealg
import Derived.Lib.IndexBytes
namespace Go.Proofs.YtodgjjkpbcadoaaGreatDoor
open Go.RowKit Go.IntWalk Lx
set_option linter.unusedVariables false

theorem hide {p : Prop} (h : p) : Hid p := h
theorem bel {w w1 w2 : World} (h : Below w.heap.size w w1) (k : Below w1.heap.size w1 w2) : Below w.heap.size w w2 := h.trans (k.mono h.size)
theorem bel1 (w : World) (o : Obj) : Below w.heap.size w (w.alloc o) := (Below.refl _ _).alloc (Nat.le_refl _) _
theorem ret_int {k : IntKind} {a b : Int} (h : a = b) : Ending.returned (.int k a) = .returned (.int k b) := by rw [h]
theorem ret_bool {a b : Bool} (h : a = b) : Ending.returned (.bool a) = .returned (.bool b) := by rw [h]

/-- The bytes of a text. -/
abbrev bs (s : ByteArray) : List UInt8 := s.data.toList
theorem bs_len (s : ByteArray) : (bs s).length = s.size := by cases s; rfl
theorem bs_at {s : ByteArray} {k : Nat} (h : k < s.size) : (bs s)[k]? = some s[k] := Lib.data_getElem? s k h
theorem bs_from (s : ByteArray) (k : Nat) : bs (s.extract k s.size) = (bs s).drop k := Lib.extract_to_end s k

theorem digit_any (c : Int) (w : World) :
    Calls Tryz.prog 79 #[.int .u8 c] w fun e w' => e = .returned (.bool (dg c)) ∧ w' = w := by
  by_cases h1 : 48 ≤ c
  · go_enter Tryz.func79, Tryz.ntmps79
    go_wp2
    go_ret
    exact ⟨ret_bool (by simp [dg, h1]), rfl⟩
  · rw [show dg c = false by simp [dg]; omega]
    go_enter Tryz.func79, Tryz.ntmps79
    go_wp2
    go_ret
    exact ⟨rfl, rfl⟩

theorem letter_any (c : Int) (w : World) :
    Calls Tryz.prog 61 #[.int .u8 c] w fun e w' => e = .returned (.bool (lt c)) ∧ w' = w := by
  by_cases h1 : 97 ≤ c
  · go_enter Tryz.func61, Tryz.ntmps61
    go_wp2
    go_ret
    exact ⟨ret_bool (by simp [lt, h1]), rfl⟩
  · rw [show lt c = false by simp [lt]; omega]
    go_enter Tryz.func61, Tryz.ntmps61
    go_wp2
    go_ret
    exact ⟨rfl, rfl⟩

theorem within_any (c : Int) (w : World) :
    Calls Tryz.prog 63 #[.int .u8 c] w fun e w' => e = .returned (.bool (wi c)) ∧ w' = w := by
  cases h1 : lt c with
  | true =>
    rw [show wi c = true by simp [wi, h1]]
    go_enter Tryz.func63, Tryz.ntmps63
    go_wp2_with (go_at_call 61; refine (letter_any _ _).mono ?_; rintro e w' ⟨rfl, rfl⟩)
    go_ret
    exact ⟨rfl, rfl⟩
  | false =>
    cases h2 : dg c with
    | true =>
      rw [show wi c = true by simp [wi, h1, h2]]
      go_enter Tryz.func63, Tryz.ntmps63
      go_wp2_with (first | (go_at_call 61; refine (letter_any _ _).mono ?_; rintro e w' ⟨rfl, rfl⟩) | (go_at_call 79; refine (digit_any _ _).mono ?_; rintro e w' ⟨rfl, rfl⟩))
      go_ret
      exact ⟨rfl, rfl⟩
    | false =>
      go_enter Tryz.func63, Tryz.ntmps63
      go_wp2_with (first | (go_at_call 61; refine (letter_any _ _).mono ?_; rintro e w' ⟨rfl, rfl⟩) | (go_at_call 79; refine (digit_any _ _).mono ?_; rintro e w' ⟨rfl, rfl⟩))
      go_ret
      exact ⟨ret_bool (by simp [wi, h1, h2]), rfl⟩

/-- A function of the program, handed on. -/
abbrev fv (n : Nat) : Value := .func (.func n) #[] #[]

set_option maxHeartbeats 1000000 in
theorem run_digit (s : ByteArray) (w : World) (hs : s.size ≤ maxLen) :
    Calls Tryz.prog 62 #[.string s, fv 79] w fun e w' => e = .returned (.int .i64 (rn D (bs s))) ∧ w' = w := by
  unfold maxLen at hs
  go_enter Tryz.func62, Tryz.ntmps62
  go_wp2
  go_loop [5] (fun i => ∃ k : Nat, k ≤ s.size ∧ i = .int .i64 k ∧ Hid (((bs s).take k).all D = true)) (fun i => s.size - (intOf i).toNat)
  case atStart => exact ⟨0, Nat.zero_le _, rfl, hide (by simp)⟩
  case round =>
    obtain ⟨k, hk, rfl, ha⟩ := hrel
    by_cases hlt : k < s.size
    · have hc := hide (bs_at hlt)
      cases hd : dg (s[k].toNat) with
      | true =>
        go_wp2_with (go_at_call 79; refine (digit_any _ _).mono ?_; rintro e w' ⟨rfl, rfl⟩)
        go_round
        case rel => exact ⟨k + 1, by omega, by go_num, hide (all_snoc ha.out hc.out hd)⟩
        case measure => simp [intOf]; omega
      | false =>
        go_wp2_with (go_at_call 79; refine (digit_any _ _).mono ?_; rintro e w' ⟨rfl, rfl⟩)
        go_ret
        exact ⟨ret_int (by rw [rn_of ha.out (by rw [bs_len]; omega) (by intro c h; rw [hc.out] at h; cases h; exact hd)]), rfl⟩
    · go_wp2
      go_ret
      exact ⟨ret_int (by rw [rn_of ha.out (by rw [bs_len]; omega) (by intro c h; rw [List.getElem?_eq_none (by rw [bs_len]; omega)] at h; cases h)]), rfl⟩

set_option maxHeartbeats 1000000 in
theorem run_within (s : ByteArray) (w : World) (hs : s.size ≤ maxLen) :
    Calls Tryz.prog 62 #[.string s, fv 63] w fun e w' => e = .returned (.int .i64 (rn W (bs s))) ∧ w' = w := by
  unfold maxLen at hs
  go_enter Tryz.func62, Tryz.ntmps62
  go_wp2
  go_loop [5] (fun i => ∃ k : Nat, k ≤ s.size ∧ i = .int .i64 k ∧ Hid (((bs s).take k).all W = true)) (fun i => s.size - (intOf i).toNat)
  case atStart => exact ⟨0, Nat.zero_le _, rfl, hide (by simp)⟩
  case round =>
    obtain ⟨k, hk, rfl, ha⟩ := hrel
    by_cases hlt : k < s.size
    · have hc := hide (bs_at hlt)
      cases hd : wi (s[k].toNat) with
      | true =>
        go_wp2_with (go_at_call 63; refine (within_any _ _).mono ?_; rintro e w' ⟨rfl, rfl⟩)
        go_round
        case rel => exact ⟨k + 1, by omega, by go_num, hide (all_snoc ha.out hc.out hd)⟩
        case measure => simp [intOf]; omega
      | false =>
        go_wp2_with (go_at_call 63; refine (within_any _ _).mono ?_; rintro e w' ⟨rfl, rfl⟩)
        go_ret
        exact ⟨ret_int (by rw [rn_of ha.out (by rw [bs_len]; omega) (by intro c h; rw [hc.out] at h; cases h; exact hd)]), rfl⟩
    · go_wp2
      go_ret
      exact ⟨ret_int (by rw [rn_of ha.out (by rw [bs_len]; omega) (by intro c h; rw [List.getElem?_eq_none (by rw [bs_len]; omega)] at h; cases h)]), rfl⟩

end Go.Proofs.YtodgjjkpbcadoaaGreatDoor
