/-
  The walk of octet.varint: what it returns owns the bytes of the number's varint, in new memory.
-/
import Derived.Test.YtibaejoonmedjaaProg
import Derived.Test.YtibaejoonmedjaaPure
import Derived.Test.YtibaejoonmedjaaMem
import Derived.WalkKit
import Derived.WalkSpells
import Derived.WalkLawsBesides
import Derived.Laws.BitsLemmas
namespace Go.Proofs.Ytibaejoonmedjaa
open Go.RowKit Oct
set_option linter.unusedVariables false

theorem info5 : (Try.prog.info? 5).map (fun i => (i.zero, i.size, i.bytes)) = some (some (.int .u8 0), 1, 1) := by kernel_rfl


theorem or128_nat : ∀ n : Nat, n < 256 → bits BinOp.or IntKind.u8 (n : Int) 128 = ((n % 128 + 128 : Nat) : Int) := by decide +kernel
theorem or128 (X : Int) : bits BinOp.or IntKind.u8 (X % 256) 128 = X % 128 + 128 := by
  obtain ⟨n, hn⟩ := Int.eq_ofNat_of_zero_le (show 0 ≤ X % 256 by omega)
  rw [hn, or128_nat n (by omega)]
  omega

set_option maxHeartbeats 400000 in
theorem varint_any (x : Int) (w : World) (h0 : 0 ≤ x) (h1 : x < 18446744073709551616) :
    Calls Try.prog 27 #[.int .u64 x] w fun e w' => ∃ v, e = .returned v ∧ w'.ownsRow w.heap.size 5 1 v (vint x).length (u8s (vint x)) ∧ Below w.heap.size w w' := by
  obtain ⟨i0, hi, hz0, hz1, hz2⟩ := info_parts info5
  go_enter Try.func27, Try.ntmps27
  go_wp2_with (at_make; refine wpList_make_own _ rfl _ _ 22 rfl w.heap.size 5 i0 (.int .u8 0) 1 Try.underlying22 hi hz0 hz1 .i64 .i64 10 10 rfl rfl rfl (by rw [hz2]; decide) (by decide) (Nat.le_refl _) ?_; intro w1 hown hgrow)
  have hb : Below w.heap.size w w1 := (Below.refl _ _).grown hgrow (Nat.le_refl _) (fun k h => by cases h)
  clear hgrow
  have hw1 : w.heap.size ≤ w1.heap.size := hb.size
  go_loopw [0, 3] (fun y v wr => ∃ (m : Nat) (X : Int) (pre : List Int), pre.length + m = 9 ∧ 0 ≤ X ∧ X < lim m ∧ y = .int .u64 X ∧ vint x = pre ++ vb m X ∧ v = .slice (some ⟨w.heap.size, 0, none⟩) pre.length 10 ∧
      wr.ownsRow w.heap.size 5 1 (.slice (some ⟨w.heap.size, 0, none⟩) pre.length 10) pre.length (u8s pre) ∧ Below w.heap.size w wr)
    (fun y _ _ => (intOf y).toNat)
  case atStart => exact ⟨9, x, [], rfl, h0, by rw [lim9]; exact h1, rfl, rfl, rfl, hown, hb⟩
  case round =>
    obtain ⟨m, X, pre, hm, hX0, hX, rfl, hv, rfl, hownr, hbr⟩ := hrel
    have HV : Hid (vint x = pre ++ vb m X) := hv
    have HL : Hid (X < lim m) := hX
    have HM : Hid (pre.length + m = 9) := hm
    have hpl : pre.length ≤ 9 := by omega
    have hsz : w.heap.size ≤ wr.heap.size := hbr.size
    by_cases hge : 128 ≤ X
    · clear hv hX hm hown hb hw1
      have hc1 : ∀ u ∈ [Value.int IntKind.u8 (bits BinOp.or IntKind.u8 (X % 256) 128)], u.oneCell' = true := by intro u hu; simp at hu; subst hu; rfl
      go_wp2_with (at_builtin; refine wpList_append_fits _ rfl _ _ 22 rfl w.heap.size 5 i0 1 Try.underlying22 hi hz1 w.heap.size pre.length 10 (u8s pre) rfl (hownr.alloc _) ⟨wr.heap.size, 0, none⟩ 1 1 [.int .u8 (bits BinOp.or IntKind.u8 (X % 256) 128)] rfl rfl (cell_one_new _ _ _) hc1 (by omega) ?_; intro w2 hown2 hgrow2)
      have hb2 : Below w.heap.size w w2 := (hbr.alloc hsz _).grown hgrow2 (by simp; omega) (fun k h => by cases h; exact Nat.le_refl _)
      rw [or128] at hown2
      go_roundw
      case rel =>
        obtain ⟨m', rfl⟩ : ∃ m', m = m' + 1 := by
          cases m with
          | zero => have := HL.out; simp only [lim] at this; omega
          | succ m' => exact ⟨m', rfl⟩
        have h1 := HL.out
        have h2 := HM.out
        simp only [lim] at h1
        exact ⟨m', X / 128, pre ++ [X % 128 + 128], by simp; omega, by omega, by omega, rfl, by rw [HV.out, vb_more _ _ hge]; simp, by simp, by simpa using hown2, hb2⟩
      case measure => simp [intOf]; omega
    · clear hv hX hm hown hb hw1
      have hc1 : ∀ u ∈ [Value.int IntKind.u8 X], u.oneCell' = true := by intro u hu; simp at hu; subst hu; rfl
      go_wp2_with (at_builtin; refine wpList_append_fits _ rfl _ _ 22 rfl w.heap.size 5 i0 1 Try.underlying22 hi hz1 w.heap.size pre.length 10 (u8s pre) rfl (hownr.alloc _) ⟨wr.heap.size, 0, none⟩ 1 1 [.int .u8 X] rfl rfl (cell_one_new _ _ _) hc1 (by omega) ?_; intro w2 hown2 hgrow2)
      have hb2 : Below w.heap.size w w2 := (hbr.alloc hsz _).grown hgrow2 (by simp; omega) (fun k h => by cases h; exact Nat.le_refl _)
      have e : vint x = pre ++ [X] := by rw [HV.out, vb_last _ _ (by omega)]
      go_ret
      exact ⟨_, rfl, by rw [e]; simpa using hown2, hb2⟩

end Go.Proofs.Ytibaejoonmedjaa
