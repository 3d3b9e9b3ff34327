/-
  Texts: which bytes stand in them, their marks. Memory untouched.
-/
import Derived.Test.YtamekjocchekoaaLow
namespace Go.Proofs.Ytamekjocchekoaa
open Go.RowKit Go.IntWalk Lx
set_option linter.unusedVariables false

theorem amg_snoc {c : Int} {l : List UInt8} {k : Nat} {b : UInt8} (h : amg c (l.take k) = false) (hb : l[k]? = some b) (hn : ((b.toNat : Int) == c) = false) : amg c (l.take (k + 1)) = false := by
  rw [List.take_add_one, hb]
  unfold amg at h ⊢
  rw [List.any_append, h]
  simp [hn]
theorem amg_yes {c : Int} {l : List UInt8} {k : Nat} {b : UInt8} (hb : l[k]? = some b) (hn : ((b.toNat : Int) == c) = true) : amg c l = true := by
  unfold amg
  rw [List.any_eq_true]
  exact ⟨b, List.mem_of_getElem? hb, hn⟩

set_option maxHeartbeats 1000000 in
theorem among_any (c : Int) (s : ByteArray) (w : World) (hs : s.size ≤ maxLen) :
    Calls Try.prog 46 #[.int .u8 c, .string s] w fun e w' => e = .returned (.bool (amg c (bs s))) ∧ w' = w := by
  unfold maxLen at hs
  go_enter Try.func46, Try.ntmps46
  go_wp2
  go_loop [5] (fun i => ∃ k : Nat, k ≤ s.size ∧ i = .int .i64 k ∧ Hid (amg c ((bs s).take k) = false)) (fun i => s.size - (intOf i).toNat)
  case atStart => exact ⟨0, Nat.zero_le _, rfl, hide rfl⟩
  case round =>
    obtain ⟨k, hk, rfl, ha⟩ := hrel
    by_cases hlt : k < s.size
    · have hc := hide (bs_at hlt)
      cases hd : ((s[k].toNat : Int) == c) with
      | true =>
        go_wp2
        go_ret
        exact ⟨ret_bool (amg_yes hc.out hd).symm, rfl⟩
      | false =>
        go_wp2
        go_round
        case rel => exact ⟨k + 1, by omega, by go_num, hide (amg_snoc ha.out hc.out hd)⟩
        case measure => simp [intOf]; omega
    · go_wp2
      go_ret
      exact ⟨ret_bool (by have := ha.out; rw [List.take_of_length_le (by rw [bs_len]; omega)] at this; exact this.symm), rfl⟩

def allOf (l m : List UInt8) : Bool := l.all fun b => amg b.toNat m

set_option maxHeartbeats 1000000 in
theorem all_any (s m : ByteArray) (w : World) (hs : s.size ≤ maxLen) (hm : m.size ≤ maxLen) :
    Calls Try.prog 57 #[.string s, .string m] w fun e w' => e = .returned (.bool (allOf (bs s) (bs m))) ∧ w' = w := by
  have hm' := hide hm
  clear hm
  unfold maxLen at hs
  go_enter Try.func57, Try.ntmps57
  go_wp2
  go_loop [5] (fun i => ∃ k : Nat, k ≤ s.size ∧ i = .int .i64 k ∧ Hid (allOf ((bs s).take k) (bs m) = true)) (fun i => s.size - (intOf i).toNat)
  case atStart => exact ⟨0, Nat.zero_le _, rfl, hide rfl⟩
  case round =>
    obtain ⟨k, hk, rfl, ha⟩ := hrel
    by_cases hlt : k < s.size
    · have hc := hide (bs_at hlt)
      cases hd : amg (s[k].toNat) (bs m) with
      | true =>
        go_wp2_with (go_at_call 46; refine (among_any _ _ _ hm'.out).mono ?_; rintro e w' ⟨rfl, rfl⟩)
        go_round
        case rel => exact ⟨k + 1, by omega, by go_num, hide (all_snoc (p := fun b => amg b.toNat (bs m)) ha.out hc.out hd)⟩
        case measure => simp [intOf]; omega
      | false =>
        go_wp2_with (go_at_call 46; refine (among_any _ _ _ hm'.out).mono ?_; rintro e w' ⟨rfl, rfl⟩)
        go_ret
        exact ⟨ret_bool (all_not (p := fun b => amg b.toNat (bs m)) hc.out hd).symm, rfl⟩
    · go_wp2
      go_ret
      exact ⟨ret_bool (by have := ha.out; rw [List.take_of_length_le (by rw [bs_len]; omega)] at this; exact this.symm), rfl⟩

abbrev dgS : ByteArray := ⟨#[48, 49, 50, 51, 52, 53, 54, 55, 56, 57]⟩
abbrev ltS : ByteArray := ⟨#[97, 98, 99, 100, 101, 102, 103, 104, 105, 106, 107, 108, 109, 110, 111, 112, 113, 114, 115, 116, 117, 118, 119, 120, 121, 122]⟩
abbrev wiS : ByteArray := ⟨#[97, 98, 99, 100, 101, 102, 103, 104, 105, 106, 107, 108, 109, 110, 111, 112, 113, 114, 115, 116, 117, 118, 119, 120, 121, 122, 48, 49, 50, 51, 52, 53, 54, 55, 56, 57, 95]⟩
abbrev shS : ByteArray := ⟨#[43, 45, 42, 47, 37, 40, 41, 44, 59, 61, 63, 58, 60, 62, 38, 124, 94]⟩
abbrev blS : ByteArray := ⟨#[32, 9, 10]⟩

def inSh (c : Int) : Bool := amg c sh
def inBl (c : Int) : Bool := amg c [32, 9, 10]

theorem all_digits (s : ByteArray) (w : World) (hs : s.size ≤ maxLen) : Calls Try.prog 57 #[.string s, .string dgS] w fun e w' => e = .returned (.bool (aD (bs s))) ∧ w' = w := by
  have h := all_any s dgS w hs (by decide)
  rw [show allOf (bs s) (bs dgS) = aD (bs s) by unfold allOf aD; congr 1; funext b; exact amg_dgs _] at h
  exact h
theorem all_within (s : ByteArray) (w : World) (hs : s.size ≤ maxLen) : Calls Try.prog 57 #[.string s, .string wiS] w fun e w' => e = .returned (.bool (aW (bs s))) ∧ w' = w := by
  have h := all_any s wiS w hs (by decide)
  rw [show allOf (bs s) (bs wiS) = aW (bs s) by unfold allOf aW; congr 1; funext b; exact amg_wis _] at h
  exact h
theorem among_letters (c : Int) (w : World) : Calls Try.prog 46 #[.int .u8 c, .string ltS] w fun e w' => e = .returned (.bool (lt c)) ∧ w' = w := by
  have h := among_any c ltS w (by decide)
  rw [show amg c (bs ltS) = lt c from amg_lts c] at h
  exact h
theorem among_marks (c : Int) (w : World) : Calls Try.prog 46 #[.int .u8 c, .string shS] w fun e w' => e = .returned (.bool (inSh c)) ∧ w' = w := among_any c shS w (by decide)
theorem among_blanks (c : Int) (w : World) : Calls Try.prog 46 #[.int .u8 c, .string blS] w fun e w' => e = .returned (.bool (inBl c)) ∧ w' = w := among_any c blS w (by decide)

/- strings.IndexByte -/

theorem iix_any (s : ByteArray) (c : Int) (w : World) :
    Calls Try.prog 87 #[.string s, .int .u8 c] w fun e w' => e = .returned (.int .i64 (Lib.indexByte (bs s) c.toNat.toUInt8)) ∧ w' = w := by
  go_enter Try.func87, Try.ntmps87
  go_wp2
  rw [run_callFunc_extern Try.func90 (by kernel_rfl) (by kernel_rfl) (by kernel_rfl) (e := Extern.BytealgIndexByte.indexByte) (by kernel_rfl), Lib.run_indexByteString]
  simp only [Result.andThen]
  rw [Oper.upon_value]
  go_wp2
  go_ret
  exact ⟨rfl, rfl⟩

theorem six_any (s : ByteArray) (c : Int) (w : World) :
    Calls Try.prog 85 #[.string s, .int .u8 c] w fun e w' => e = .returned (.int .i64 (Lib.indexByte (bs s) c.toNat.toUInt8)) ∧ w' = w := by
  go_enter Try.func85, Try.ntmps85
  go_wp2_with (go_at_call 87; refine (iix_any _ _ _).mono ?_; rintro e w' ⟨rfl, rfl⟩)
  go_ret
  exact ⟨rfl, rfl⟩

end Go.Proofs.Ytamekjocchekoaa
