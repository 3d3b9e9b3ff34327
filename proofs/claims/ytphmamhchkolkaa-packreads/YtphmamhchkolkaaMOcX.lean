/-
  The walk of octet.varint: what it returns owns the bytes of the number's varint, in new memory.
-/
import Derived.Test.YtphmamhchkolkaaProg
import Derived.Test.YtphmamhchkolkaaMOcQ
import Derived.Test.YtphmamhchkolkaaMOcMem
import Derived.WalkKit
import Derived.WalkSpells
import Derived.WalkLawsBesides
import Derived.Laws.BitsLemmas
import Derived.Laws.BitsAllLaws
import Derived.Laws.DeepNot64
import Derived.Laws.Bits64
import Derived.Deep.QuietTactic
import Derived.BigQuiet
namespace Go.Proofs.Ytphmamhchkolkaa.Ocm
open Go.RowKit Oct
set_option linter.unusedVariables false

theorem info5 : (Try.prog.info? 5).map (fun i => (i.zero, i.size, i.bytes)) = some (some (.int .u8 0), 1, 1) := by kernel_rfl


theorem or128_nat : ∀ n : Nat, n < 256 → bits BinOp.or IntKind.u8 (n : Int) 128 = ((n % 128 + 128 : Nat) : Int) := by decide +kernel
theorem or128 (X : Int) : bits BinOp.or IntKind.u8 (X % 256) 128 = X % 128 + 128 := by
  obtain ⟨n, hn⟩ := Int.eq_ofNat_of_zero_le (show 0 ≤ X % 256 by omega)
  rw [hn, or128_nat n (by omega)]
  omega

set_option maxRecDepth 100000 in
set_option maxHeartbeats 400000 in
theorem varint_any (x : Int) (w : World) (h0 : 0 ≤ x) (h1 : x < 18446744073709551616) :
    Calls Try.prog 65 #[.int .u64 x] w fun e w' => ∃ v, e = .returned v ∧ w'.ownsRow w.heap.size 5 1 v (vint x).length (u8s (vint x)) ∧ Below w.heap.size w w' := by
  obtain ⟨i0, hi, hz0, hz1, hz2⟩ := info_parts info5
  go_enter Try.func65, Try.ntmps65
  go_wp2_with (at_make; refine wpList_make_own _ rfl _ _ 28 rfl w.heap.size 5 i0 (.int .u8 0) 1 Try.underlying28 hi hz0 hz1 .i64 .i64 10 10 rfl rfl rfl (by rw [hz2]; decide) (by decide) (Nat.le_refl _) ?_; intro w1 hown hgrow)
  have hb : Below w.heap.size w w1 := (Below.refl _ _).grown hgrow (Nat.le_refl _) (fun k h => by cases h)
  clear hgrow
  have hw1 : w.heap.size ≤ w1.heap.size := hb.size
  go_loopw [0, 3] (fun y v wr => ∃ (m : Nat) (X : Int) (pre : List Int), pre.length + m = 9 ∧ 0 ≤ X ∧ X < lim m ∧ y = .int .u64 X ∧ vint x = pre ++ vb m X ∧ v = .slice (some ⟨w.heap.size, 0, none⟩) pre.length 10 ∧
      wr.ownsRow w.heap.size 5 1 (.slice (some ⟨w.heap.size, 0, none⟩) pre.length 10) pre.length (u8s pre) ∧ Below w.heap.size w wr)
    (fun y _ _ => (intOf y).toNat)
  case atStart => exact ⟨9, x, [], rfl, h0, by rw [lim9]; exact h1, rfl, rfl, rfl, hown, hb⟩
  case round =>
    obtain ⟨m, X, pre, hm, hX0, hX, rfl, hv, rfl, hownr, hbr⟩ := hrel
    have HV : Hid (vint x = pre ++ vb m X) := hv
    have HL : Hid (X < lim m) := hX
    have HM : Hid (pre.length + m = 9) := hm
    have hpl : pre.length ≤ 9 := by omega
    have hsz : w.heap.size ≤ wr.heap.size := hbr.size
    by_cases hge : 128 ≤ X
    · clear hv hX hm hown hb hw1
      have hc1 : ∀ u ∈ [Value.int IntKind.u8 (bits BinOp.or IntKind.u8 (X % 256) 128)], u.oneCell' = true := by intro u hu; simp at hu; subst hu; rfl
      go_wp2_with (at_builtin; refine wpList_append_fits _ rfl _ _ 28 rfl w.heap.size 5 i0 1 Try.underlying28 hi hz1 w.heap.size pre.length 10 (u8s pre) rfl (hownr.alloc _) ⟨wr.heap.size, 0, none⟩ 1 1 [.int .u8 (bits BinOp.or IntKind.u8 (X % 256) 128)] rfl rfl (cell_one_new _ _ _) hc1 (by omega) ?_; intro w2 hown2 hgrow2)
      have hb2 : Below w.heap.size w w2 := (hbr.alloc hsz _).grown hgrow2 (by simp; omega) (fun k h => by cases h; exact Nat.le_refl _)
      rw [or128] at hown2
      go_roundw
      case rel =>
        obtain ⟨m', rfl⟩ : ∃ m', m = m' + 1 := by
          cases m with
          | zero => have := HL.out; simp only [lim] at this; omega
          | succ m' => exact ⟨m', rfl⟩
        have h1 := HL.out
        have h2 := HM.out
        simp only [lim] at h1
        exact ⟨m', X / 128, pre ++ [X % 128 + 128], by simp; omega, by omega, by omega, rfl, by rw [HV.out, vb_more _ _ hge]; simp, by simp, by simpa using hown2, hb2⟩
      case measure => simp [intOf]; omega
    · clear hv hX hm hown hb hw1
      have hc1 : ∀ u ∈ [Value.int IntKind.u8 X], u.oneCell' = true := by intro u hu; simp at hu; subst hu; rfl
      go_wp2_with (at_builtin; refine wpList_append_fits _ rfl _ _ 28 rfl w.heap.size 5 i0 1 Try.underlying28 hi hz1 w.heap.size pre.length 10 (u8s pre) rfl (hownr.alloc _) ⟨wr.heap.size, 0, none⟩ 1 1 [.int .u8 X] rfl rfl (cell_one_new _ _ _) hc1 (by omega) ?_; intro w2 hown2 hgrow2)
      have hb2 : Below w.heap.size w w2 := (hbr.alloc hsz _).grown hgrow2 (by simp; omega) (fun k h => by cases h; exact Nat.le_refl _)
      have e : vint x = pre ++ [X] := by rw [HV.out, vb_last _ _ (by omega)]
      go_ret
      exact ⟨_, rfl, by rw [e]; simpa using hown2, hb2⟩

end Go.Proofs.Ytphmamhchkolkaa.Ocm

/-
  The walks of octet.fold, octet.unfold and damaskref01.zigzag: numbers of either sign and numbers from 0 on.
-/
namespace Go.Proofs.Ytphmamhchkolkaa.Ocm
open Go.RowKit Oct
set_option linter.unusedVariables false

theorem u64_not (a : Nat) (ha : a < 18446744073709551616) : bits .xor .u64 IntKind.u64.max (a : Int) = 18446744073709551615 - (a : Int) := by
  show IntKind.u64.wrap ((BitVec.ofInt 64 IntKind.u64.max ^^^ BitVec.ofInt 64 (a : Int)).toNat : Int) = _
  have h1 : BitVec.ofInt 64 IntKind.u64.max = BitVec.allOnes 64 := by decide
  rw [h1, BitVec.allOnes_xor, BitVec.toNat_not, ofInt_u64 a (by omega)]
  simp [IntKind.wrap, IntKind.bits, IntKind.signed]
  omega

theorem fold_neg (n : Int) (hn : n < 0) (h0 : -9223372036854775808 ≤ n) : bits BinOp.xor IntKind.u64 IntKind.u64.max (IntKind.u64.wrap (IntKind.u64.wrap n * 2)) = zz n := by
  have e : IntKind.u64.wrap (IntKind.u64.wrap n * 2) = n * 2 + 18446744073709551616 := by
    rw [IntKind.wrap_u64, IntKind.wrap_u64]; omega
  rw [e]
  obtain ⟨a, ha⟩ := Int.eq_ofNat_of_zero_le (show 0 ≤ n * 2 + 18446744073709551616 by omega)
  rw [ha, u64_not a (by omega)]
  unfold zz; rw [if_pos hn]; omega

theorem unfold_odd (x : Int) (h0 : 0 ≤ x) (h1 : x < 18446744073709551616) (h : (bits BinOp.and IntKind.u64 x 1 == 1) = true) : bits BinOp.xor IntKind.i64 (-1) (x / 2) = uz x := by
  rw [and_one_u64 x h0 (by omega)] at h
  have h2 : x % 2 = 1 := by simpa using h
  obtain ⟨a, ha⟩ := Int.eq_ofNat_of_zero_le (show 0 ≤ x / 2 by omega)
  rw [ha, i64_not a (by omega)]
  unfold uz; rw [if_pos h2]; omega
theorem unfold_even (x : Int) (h0 : 0 ≤ x) (h1 : x < 18446744073709551616) (h : (bits BinOp.and IntKind.u64 x 1 == 1) = false) : x / 2 = uz x := by
  rw [and_one_u64 x h0 (by omega)] at h
  have h2 : ¬ x % 2 = 1 := by simpa using h
  unfold uz; rw [if_neg h2]

theorem ret_int {k : IntKind} {a b : Int} (h : a = b) : Ending.returned (.int k a) = .returned (.int k b) := by rw [h]

set_option maxRecDepth 100000 in
set_option maxHeartbeats 400000 in
theorem fold_any (n : Int) (w : World) (h0 : -9223372036854775808 ≤ n) (h1 : n ≤ 9223372036854775807) :
    Calls Try.prog 72 #[.int .i64 n] w fun e w' => e = .returned (.int .u64 (zz n)) ∧ w' = w := by
  by_cases hn : n < 0
  · go_enter Try.func72, Try.ntmps72
    go_wp2
    go_ret
    exact ⟨ret_int (fold_neg n hn h0), rfl⟩
  · have e : n * 2 = zz n := by unfold zz; rw [if_neg hn]; omega
    have E : Hid (n * 2 = zz n) := e
    clear e
    go_enter Try.func72, Try.ntmps72
    go_wp2
    go_ret
    exact ⟨ret_int E.out, rfl⟩

set_option maxRecDepth 100000 in
set_option maxHeartbeats 400000 in
theorem unfold_any (x : Int) (w : World) (h0 : 0 ≤ x) (h1 : x < 18446744073709551616) :
    Calls Try.prog 73 #[.int .u64 x] w fun e w' => e = .returned (.int .i64 (uz x)) ∧ w' = w := by
  go_enter Try.func73, Try.ntmps73
  go_wp2
  · go_ret
    exact ⟨ret_int (unfold_odd x h0 h1 (by assumption)), rfl⟩
  · go_ret
    exact ⟨ret_int (unfold_even x h0 h1 (by assumption)), rfl⟩

set_option maxRecDepth 100000 in
set_option maxHeartbeats 400000 in
theorem zigzag_any (n : Int) (w : World) (h0 : -9223372036854775808 ≤ n) (h1 : n ≤ 9223372036854775807) :
    Calls Try.prog 54 #[.int .i64 n] w fun e w' => e = .returned (.int .u64 (zz n)) ∧ w' = w := by
  by_cases hn : n < 0
  · have e : 2 * -(n + 1) + 1 = zz n := by unfold zz; rw [if_pos hn]; omega
    have E : Hid (2 * -(n + 1) + 1 = zz n) := e
    clear e
    go_enter Try.func54, Try.ntmps54
    go_wp2
    go_ret
    exact ⟨ret_int E.out, rfl⟩
  · have e : 2 * n = zz n := by unfold zz; rw [if_neg hn]
    have E : Hid (2 * n = zz n) := e
    clear e
    go_enter Try.func54, Try.ntmps54
    go_wp2
    go_ret
    exact ⟨ret_int E.out, rfl⟩

set_option maxRecDepth 100000 in
set_option maxHeartbeats 400000 in
/-- octet.Int. -/
theorem int_any (n : Int) (w : World) (h0 : -9223372036854775808 ≤ n) (h1 : n ≤ 9223372036854775807) :
    Calls Try.prog 66 #[.int .i64 n] w fun e w' => ∃ v, e = .returned v ∧ w'.ownsRow w.heap.size 5 1 v (vint (zz n)).length (u8s (vint (zz n))) ∧ Below w.heap.size w w' := by
  obtain ⟨hz1, hz2⟩ := zz_range n h0 h1
  go_enter Try.func66, Try.ntmps66
  go_wp2_with (first
    | (go_at_call 72; refine (fold_any n _ h0 h1).mono ?_; rintro e w' ⟨rfl, rfl⟩)
    | (go_at_call 65; refine (varint_any (zz n) _ hz1 hz2).mono ?_; rintro e w' ⟨v, rfl, hown, hbel⟩))
  go_ret
  exact ⟨_, rfl, hown, hbel⟩

set_option maxRecDepth 100000 in
set_option maxHeartbeats 400000 in
/-- octet.Uint, a number from 0 on. -/
theorem uint_any (n : Int) (w : World) (h0 : 0 ≤ n) (h1 : n ≤ 9223372036854775807) :
    Calls Try.prog 47 #[.int .i64 n] w fun e w' => ∃ v, e = .returned (.tuple #[v, .int .i64 0]) ∧ w'.ownsRow w.heap.size 5 1 v (vint n).length (u8s (vint n)) ∧ Below w.heap.size w w' := by
  go_enter Try.func47, Try.ntmps47
  go_wp2_with (go_at_call 65; refine (varint_any n _ h0 (by omega)).mono ?_; rintro e w' ⟨v, rfl, hown, hbel⟩)
  go_ret2
  exact ⟨_, rfl, hown, hbel⟩

set_option maxRecDepth 100000 in
set_option maxHeartbeats 400000 in
/-- octet.Uint below 0. -/
theorem uint_neg (n : Int) (w : World) (h0 : n < 0) :
    Calls Try.prog 47 #[.int .i64 n] w fun e w' => e = .returned (.tuple #[.slice none 0 0, .int .i64 1]) ∧ w' = w := by
  go_enter Try.func47, Try.ntmps47
  go_wp2_with fail
  go_ret2
  exact ⟨rfl, rfl⟩

end Go.Proofs.Ytphmamhchkolkaa.Ocm

/-
  The walk of damaskref01.Same: it tells whether two lists of bytes are alike.
-/
namespace Go.Proofs.Ytphmamhchkolkaa.Ocm
open Go.RowKit Oct
set_option linter.unusedVariables false

theorem take_succ_iff {z1 z2 : List Int} {k : Nat} (h1 : k < z1.length) (h2 : k < z2.length) (h : z1.take k = z2.take k) (e : z1.getD k 0 = z2.getD k 0) : z1.take (k + 1) = z2.take (k + 1) := by
  rw [List.take_succ_eq_append_getElem h1, List.take_succ_eq_append_getElem h2, h]
  simp [List.getD, h1, h2] at e
  rw [e]

set_option maxRecDepth 100000 in
set_option maxHeartbeats 800000 in
theorem same_any (a1 a2 : Option Addr) (n1 n2 c1 c2 : Nat) (z1 z2 : List Int) (w : World) (h1 : Bytes w a1 n1 c1 z1) (h2 : Bytes w a2 n2 c2 z2) :
    Calls Try.prog 12 #[.slice a1 n1 c1, .slice a2 n2 c2] w fun e w' => e = .returned (.bool (decide (z1 = z2))) ∧ ∃ q, w' = w.drewN q := by
  have hm1 : n1 ≤ 9223372036854775807 := by have := h1.le; have := h1.max; unfold maxLen at this; omega
  have hl1 := h1.len
  have hl2 := h2.len
  have HL1 : Hid (z1.length = n1) := hl1
  have HL2 : Hid (z2.length = n2) := hl2
  by_cases hne : n1 = n2
  · subst hne
    clear hl1 hl2
    go_enter Try.func12, Try.ntmps12
    go_wp2_with fail
    go_loopw [5] (fun i wr => ∃ k q : Nat, k ≤ n1 ∧ i = .int .i64 k ∧ z1.take k = z2.take k ∧ wr = w.drewN q) (fun i _ => n1 - (intOf i).toNat)
    case atStart => exact ⟨0, 0, Nat.zero_le _, rfl, by simp, rfl⟩
    case round =>
      obtain ⟨k, q, hk, rfl, htk, rfl⟩ := hrel
      have HT : Hid (z1.take k = z2.take k) := htk
      clear htk
      by_cases hlt : k < n1
      · obtain ⟨b1, o1, rfl, _, hc1⟩ := h1.at (by omega)
        obtain ⟨b2, o2, rfl, _, hc2⟩ := h2.at (by omega)
        have g1 := hc1 k hlt
        have g2 := hc2 k hlt
        clear hc1 hc2
        generalize ea : z1.getD k 0 = x at g1
        generalize eb : z2.getD k 0 = y at g2
        have EA : Hid (z1.getD k 0 = x) := ea
        have EB : Hid (z2.getD k 0 = y) := eb
        clear ea eb
        go_wp2_with fail
        go_quiet (fail)
        go_wp2_with fail
        · have hxy : x ≠ y := by simpa using (show (x != y) = true by assumption)
          go_ret
          refine ⟨?_, _, World.drewN_drewN ..⟩
          have hz : ¬ z1 = z2 := fun e => hxy (by rw [← EA.out, ← EB.out, e])
          simp [hz]
        · have hxy : x = y := by simpa using (show (x != y) = false by assumption)
          go_roundw
          case rel => exact ⟨k + 1, _, by omega, by go_num, take_succ_iff (by rw [HL1.out]; exact hlt) (by rw [HL2.out]; exact hlt) HT.out (by rw [EA.out, EB.out, hxy]), rfl⟩
          case measure => simp [intOf]; omega
      · go_wp2_with fail
        go_ret
        refine ⟨?_, _, rfl⟩
        have hz : z1 = z2 := by
          have h := HT.out
          rw [List.take_of_length_le (by rw [HL1.out]; omega), List.take_of_length_le (by rw [HL2.out]; omega)] at h
          exact h
        simp [hz]
  · have hne' : ((n1 : Int) != (n2 : Int)) = true := by simp; omega
    go_enter Try.func12, Try.ntmps12
    go_wp2_with fail
    go_ret
    refine ⟨?_, 0, rfl⟩
    have hz : ¬ z1 = z2 := fun e => hne (by rw [← HL1.out, ← HL2.out, e])
    simp [hz]

end Go.Proofs.Ytphmamhchkolkaa.Ocm
