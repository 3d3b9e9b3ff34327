/-
  The walk of damaskref02.Bytes: bits as bytes, by definition.
-/
import Derived.Test.YtkmhdkeneggceaaRef
namespace Go.Proofs.Ytkmhdkeneggceaa
open Go.RowKit Bt
set_option linter.unusedVariables false

theorem byteAt_num (bs : List Int) (j : Nat) : num (fun k => bs.getD k 0) (8 * j) 8 = byteAt bs j := by
  simp only [num, byteAt, Nat.add_zero]
  generalize bs.getD (8 * j) 0 = x0
  generalize bs.getD (8 * j + 1) 0 = x1
  generalize bs.getD (8 * j + 2) 0 = x2
  generalize bs.getD (8 * j + 3) 0 = x3
  generalize bs.getD (8 * j + 4) 0 = x4
  generalize bs.getD (8 * j + 5) 0 = x5
  generalize bs.getD (8 * j + 6) 0 = x6
  generalize bs.getD (8 * j + 7) 0 = x7
  omega

theorem pack_take {bs : List Int} {j : Nat} (h : 8 * j < bs.length) : (pack bs).take (j + 1) = (pack bs).take j ++ [byteAt bs j] := by
  rw [List.take_succ_eq_append_getElem (by rw [pack_len]; omega)]
  simp [pack]

abbrev OwnB (B : Nat) (w : World) (v : Value) (zs : List Int) : Prop := w.ownsRow B 5 1 v zs.length (u8s zs)

theorem ownB_snoc {B : Nat} {w : World} {v : Value} {zs : List Int} {x : Int} (h : w.ownsRow B 5 1 v (zs.length + 1) (u8s zs ++ [.int .u8 x])) : OwnB B w v (zs ++ [x]) := by
  unfold OwnB
  rw [List.length_append]
  simpa using h

set_option maxHeartbeats 2000000 in
theorem refBytes_any (a : Option Addr) (n c : Nat) (bs : List Int) (w : World) (hI : Ints w a n c bs) (hbin : Bin bs) (hn : n ≤ 1125899906842624) :
    Calls Try.prog 15 #[.slice a n c] w fun e w' => ∃ v, e = .returned v ∧ OwnB w.heap.size w' v (pack bs) ∧ Below w.heap.size w w' := by
  obtain ⟨i0, hi, hz0, hz1, hz2⟩ := info_parts info5
  have HI := hide hI
  have hl := hI.len
  clear hI
  go_enter Try.func15, Try.ntmps15
  go_wp2_with fail
  go_loopw [3, 4] (fun v i wr => ∃ j : Nat, j ≤ (n + 7) / 8 ∧ i = .int .i64 ((8 * j : Nat) : Int) ∧ OwnB w.heap.size wr v ((pack bs).take j) ∧ Below w.heap.size w wr) (fun _ i _ => n + 8 - (intOf i).toNat)
  case atStart => exact ⟨0, Nat.zero_le _, rfl, ⟨rfl, .inl ⟨rfl, rfl⟩⟩, Below.refl _ _⟩
  case round =>
    obtain ⟨j, hj, rfl, hown, hbel⟩ := hrel
    have HO := hide hown
    have HB := hide hbel
    have hsz := hbel.size
    clear hown hbel
    by_cases hlt : 8 * j < n
    · go_wp2_with fail
      go_loop [5, 6] (fun x k => ∃ t : Nat, t ≤ 8 ∧ k = .int .i64 ((8 * j + t : Nat) : Int) ∧ x = .int .i64 (num (fun k => bs.getD k 0) (8 * j) t)) (fun _ k => 8 * j + 8 - (intOf k).toNat)
      case atStart => exact ⟨0, by omega, by simp, rfl⟩
      case round =>
        obtain ⟨t, ht, rfl, rfl⟩ := hrel
        obtain ⟨hx0, hx1⟩ := num_range (fun k => bin_getD hbin k) (8 * j) t
        have hx2 : num (fun k => bs.getD k 0) (8 * j) t < 256 := by
          have : ∀ t, t ≤ 8 → (2 : Int) ^ t ≤ 256 := by decide
          have := this t ht
          omega
        clear hx1
        by_cases ht8 : t < 8
        · have HS : Hid (num (fun k => bs.getD k 0) (8 * j) (t + 1) = 2 * num (fun k => bs.getD k 0) (8 * j) t + bs.getD (8 * j + t) 0) := hide rfl
          by_cases hkn : 8 * j + t < n
          · obtain ⟨b, off, rfl, _, hc⟩ := (HI.out.later HB.out).at (by omega)
            have c0 := hc (8 * j + t) hkn
            obtain ⟨hb0, hb1⟩ := bin_getD hbin (8 * j + t)
            clear hc
            generalize num (fun k => bs.getD k 0) (8 * j) t = X at *
            generalize bs.getD (8 * j + t) 0 = Y at *
            go_wp2_with fail
            go_round
            case rel => exact ⟨t + 1, by omega, by go_num, by rw [HS.out]⟩
            case measure => simp [intOf]; omega
          · have HZ : Hid (bs.getD (8 * j + t) 0 = 0) := hide (getD_out (by omega))
            generalize num (fun k => bs.getD k 0) (8 * j) t = X at *
            go_wp2_with fail
            go_round
            case rel => exact ⟨t + 1, by omega, by go_num, by rw [HS.out, HZ.out, Int.add_zero]⟩
            case measure => simp [intOf]; omega
        · obtain rfl : t = 8 := by omega
          have HE : Hid (num (fun k => bs.getD k 0) (8 * j) 8 = byteAt bs j) := hide (byteAt_num bs j)
          have hE : num (fun k => bs.getD k 0) (8 * j) 8 % 256 = num (fun k => bs.getD k 0) (8 * j) 8 := by omega
          have HE2 := hide hE
          clear hE
          generalize hX : num (fun k => bs.getD k 0) (8 * j) 8 = X at *
          have hptl : ((pack bs).take j).length ≤ j := by rw [List.length_take]; omega
          have HOA := hide (owns_alloc HO.out (.cells #[.int .u8 X] 5))
          have HN := hide (one_news wr .u8 5 X)
          have h1c := one_one .u8 X
          go_wp2_with (at_builtin; refine wpList_append_own _ rfl _ _ 34 rfl w.heap.size 5 i0 (.int .u8 0) 1 1 Try.underlying34 hi hz0 hz1 hz2 rfl (by decide) u3 ((pack bs).take j).length (u8s ((pack bs).take j)) rfl HOA.out ⟨wr.heap.size, 0, none⟩ 1 1 [.int .u8 X] rfl rfl (HN.out _ rfl) h1c (by unfold maxLen; omega) (by omega) (by simp; omega) ?_; intro v' w2 hown2 hgr2 _; have HO2 := hide (ownB_snoc hown2); have HB2 := hide (below_append HB.out hsz HO.out hgr2); clear hown2 hgr2)
          go_roundw
          case rel => exact ⟨j + 1, by omega, by go_num, by rw [pack_take (by omega), ← HE.out]; exact HO2.out, HB2.out⟩
          case measure => simp [intOf]; omega
    · have HT : Hid ((pack bs).take j = pack bs) := hide (List.take_of_length_le (by rw [pack_len]; omega))
      go_wp2_with fail
      go_ret
      exact ⟨_, rfl, by rw [← HT.out]; exact HO.out, HB.out⟩

end Go.Proofs.Ytkmhdkeneggceaa
