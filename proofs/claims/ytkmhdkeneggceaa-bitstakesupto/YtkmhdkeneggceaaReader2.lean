/-
  The walks of a reader's methods: runs of ones, where the reader stands, the end; readers that are nil.
-/
import Derived.Test.YtkmhdkeneggceaaReader
namespace Go.Proofs.Ytkmhdkeneggceaa
open Go.RowKit Bt
set_option linter.unusedVariables false

theorem ct_bad {f : Nat → Int} {a l : Nat} {d : Int} (h : d < 0 ∨ 64 < d) : ct f a l d = (0, 0, 1) := by unfold ct; rw [if_pos h]
theorem ct_all {f : Nat → Int} {a l m : Nat} (h : m ≤ 64) (h2 : lead f a (min m l) = m) : ct f a l m = ((m : Int), m, 0) := by unfold ct; rw [if_neg (by omega)]; simp [h2]
theorem ct_short {f : Nat → Int} {a l m : Nat} (h : m ≤ 64) (h2 : lead f a (min m l) ≠ m) (h3 : lead f a (min m l) = l) : ct f a l m = (0, 0, 2) := by
  unfold ct; rw [if_neg (by omega)]; simp only [Int.toNat_natCast]; rw [if_neg h2, if_pos h3]
theorem ct_ok {f : Nat → Int} {a l m : Nat} (h : m ≤ 64) (h2 : lead f a (min m l) ≠ m) (h3 : lead f a (min m l) ≠ l) : ct f a l m = ((lead f a (min m l) : Int), lead f a (min m l) + 1, 0) := by
  unfold ct; rw [if_neg (by omega)]; simp only [Int.toNat_natCast]; rw [if_neg h2, if_neg h3]

set_option maxHeartbeats 2000000 in
theorem rones_any (base r : Nat) (v : Value) (zs : List Int) (at' : Nat) (d : Int) (w : World) (hR : Rd base w r v zs at') :
    Calls Try.prog 22 #[.pointer (some ⟨r, 0, none⟩), .int .i64 d] w fun e w' =>
      e = .returned (.tuple #[.int .i64 (ct (bitAt zs) at' (8 * zs.length - at') d).1, .int .i64 (ct (bitAt zs) at' (8 * zs.length - at') d).2.2]) ∧
      Rd base w' r v zs (at' + (ct (bitAt zs) at' (8 * zs.length - at') d).2.1) ∧ w.grownBy w' (some r) := by
  have HR := hide hR
  have hle := hR.le
  have hs := hR.short
  clear hR
  by_cases h1 : d < 0
  · rw [ct_bad (.inl h1)]
    go_enter Try.func22, Try.ntmps22
    go_wp2_with fail
    go_ret2
    exact ⟨rfl, HR.out, World.grownBy.refl _ _⟩
  · by_cases h2 : 64 < d
    · rw [ct_bad (.inr h2)]
      go_enter Try.func22, Try.ntmps22
      go_wp2_with fail
      go_ret2
      exact ⟨rfl, HR.out, World.grownBy.refl _ _⟩
    · obtain ⟨m, rfl⟩ := Int.eq_ofNat_of_zero_le (show 0 ≤ d by omega)
      obtain ⟨hk, hk1, hk2⟩ := lead_spec (bitAt zs) at' (min m (8 * zs.length - at'))
      have HA := hide (ct_all (f := bitAt zs) (a := at') (l := 8 * zs.length - at') (show m ≤ 64 by omega))
      have HS := hide (ct_short (f := bitAt zs) (a := at') (l := 8 * zs.length - at') (show m ≤ 64 by omega))
      have HO := hide (ct_ok (f := bitAt zs) (a := at') (l := 8 * zs.length - at') (show m ≤ 64 by omega))
      have HK1 := hide hk1
      have HK2 := hide hk2
      clear hk1 hk2
      generalize hK : lead (bitAt zs) at' (min m (8 * zs.length - at')) = K at *
      clear hK
      generalize hc : ct (bitAt zs) at' (8 * zs.length - at') ↑m = C at *
      clear hc
      go_enter Try.func22, Try.ntmps22
      go_wp2_with fail
      refine (left_any base r v zs at' w HR.out).mono ?_
      rintro e w1 ⟨rfl, rfl⟩
      have HR1 := hide HR.out.drew
      have HG1 := hide (grownBy_drew' (World.grownBy.refl w.drew (some r)))
      generalize hw1 : w.drew = w1 at *
      clear hw1
      generalize hL : 8 * zs.length - at' = L at *
      go_wp2_with fail
      go_loop [21] (fun i => ∃ j : Nat, j ≤ K ∧ i = .int .i64 (j : Nat)) (fun i => K + 1 - (intOf i).toNat)
      case atStart => exact ⟨0, Nat.zero_le _, rfl⟩
      case round =>
        obtain ⟨j, hj, rfl⟩ := hrel
        by_cases hlt : j < K
        · have hjm : j < m := by omega
          have hjL : ((j : Int) == (L : Int)) = false := by simp; omega
          have hne : (bitAt zs (at' + j) == 0) = false := by simp; exact HK1.out j hlt
          go_wp2_with fail
          refine (next_any base r v zs at' j w1 HR1.out (by omega)).mono ?_
          rintro e w2 ⟨rfl, rfl⟩
          generalize bitAt zs (at' + j) = B at *
          go_wp2_with fail
          go_round
          case rel => exact ⟨j + 1, by omega, by go_num⟩
          case measure => simp [intOf]; omega
        · obtain rfl : j = K := by omega
          by_cases hjm : j < m
          · by_cases hjL : j = L
            · have HE := hide (HS.out (by omega) hjL)
              have hjL' : ((j : Int) == (L : Int)) = true := by simp; omega
              go_wp2_with fail
              go_ret2
              refine ⟨ret_two (by rw [HE.out]) (by rw [HE.out]), ?_, HG1.out⟩
              rw [HE.out]; exact HR1.out
            · have HE := hide (HO.out (by omega) hjL)
              have hjL' : ((j : Int) == (L : Int)) = false := by simp; omega
              have hz : (bitAt zs (at' + j) == 0) = true := by simp; exact HK2.out (by omega)
              have c1 := two_cell1 HR1.out.heap
              have f1 := two_free 1 HR1.out.heap
              have HM := hide (HR1.out.moved (x := (at' : Int) + ((j : Int) + 1)) (y := at' + (j + 1)) (by omega) (by omega))
              go_wp2_with fail
              refine (next_any base r v zs at' j w1 HR1.out (by omega)).mono ?_
              rintro e w2 ⟨rfl, rfl⟩
              generalize bitAt zs (at' + j) = B at *
              go_wp2_with fail
              go_ret2
              refine ⟨ret_two (by rw [HE.out]) (by rw [HE.out]), ?_, ?_⟩
              · rw [HE.out]; exact HM.out.1
              · exact HG1.out.trans HM.out.2
          · have HE := hide (HA.out (by omega))
            have c1 := two_cell1 HR1.out.heap
            have f1 := two_free 1 HR1.out.heap
            have HM := hide (HR1.out.moved (x := (at' : Int) + (m : Int)) (y := at' + m) (by omega) (by omega))
            go_wp2_with fail
            go_ret2
            refine ⟨ret_two (by rw [HE.out]) (by rw [HE.out]), ?_, ?_⟩
            · rw [HE.out]; exact HM.out.1
            · exact HG1.out.trans HM.out.2

set_option maxHeartbeats 1000000 in
theorem rend_any (base r : Nat) (v : Value) (zs : List Int) (at' : Nat) (w : World) (hR : Rd base w r v zs at') :
    Calls Try.prog 27 #[.pointer (some ⟨r, 0, none⟩)] w fun e w' => e = .returned (.int .i64 (en (bitAt zs) at' (8 * zs.length - at'))) ∧ w' = w.drew := by
  have HR := hide hR
  have hle := hR.le
  have hs := hR.short
  clear hR
  go_enter Try.func27, Try.ntmps27
  go_wp2_with fail
  refine (left_any base r v zs at' w HR.out).mono ?_
  rintro e w1 ⟨rfl, rfl⟩
  have HR1 := hide HR.out.drew
  generalize hw1 : w.drew = w1 at *
  generalize hL : 8 * zs.length - at' = L at *
  by_cases h8 : 8 ≤ L
  · have HE : Hid (en (bitAt zs) at' L = 5) := hide (by unfold en; rw [if_pos h8])
    go_wp2_with fail
    go_ret
    exact ⟨ret_int (by rw [hL, HE.out]), hw1.symm ▸ rfl⟩
  · have HE : Hid (en (bitAt zs) at' L = if ∀ i, i < L → bitAt zs (at' + i) = 0 then 0 else 3) := hide (by unfold en; rw [if_neg h8])
    go_wp2_with fail
    go_loop [12] (fun i => ∃ j : Nat, j ≤ L ∧ i = .int .i64 (j : Nat) ∧ ∀ i, i < j → bitAt zs (at' + i) = 0) (fun i => L - (intOf i).toNat)
    case atStart => exact ⟨0, Nat.zero_le _, rfl, fun i hi => absurd hi (by omega)⟩
    case round =>
      obtain ⟨j, hj, rfl, hz⟩ := hrel
      have HZ := hide hz
      clear hz
      by_cases hlt : j < L
      · go_wp2_with fail
        refine (next_any base r v zs at' j w1 HR1.out (by omega)).mono ?_
        rintro e w2 ⟨rfl, rfl⟩
        have HBn := hide (bitAt_bin zs (at' + j))
        by_cases hb : bitAt zs (at' + j) = 0
        · have HB := hide hb
          have hb1 : (bitAt zs (at' + j) == 1) = false := by simp; omega
          clear hb
          generalize hBB : bitAt zs (at' + j) = B at *
          go_wp2_with fail
          go_round
          case rel => exact ⟨j + 1, by omega, by go_num, fun i hi => by
            by_cases hij : i = j
            · subst hij; rw [hBB]; exact HB.out
            · exact HZ.out i (by omega)⟩
          case measure => simp [intOf]; omega
        · have HN : Hid (¬ ∀ i, i < L → bitAt zs (at' + i) = 0) := hide (fun H => hb (H j hlt))
          have hb1 : (bitAt zs (at' + j) == 1) = true := by have := HBn.out; simp; omega
          clear hb
          generalize hBB : bitAt zs (at' + j) = B at *
          go_wp2_with fail
          go_ret
          exact ⟨ret_int (by rw [hL, HE.out, if_neg HN.out]), hw1.symm ▸ rfl⟩
      · obtain rfl : j = L := by omega
        go_wp2_with fail
        go_ret
        exact ⟨ret_int (by rw [HE.out, if_pos HZ.out]), hw1.symm ▸ rfl⟩

theorem rat_any (base r : Nat) (v : Value) (zs : List Int) (at' : Nat) (w : World) (hR : Rd base w r v zs at') :
    Calls Try.prog 25 #[.pointer (some ⟨r, 0, none⟩)] w fun e w' => e = .returned (.int .i64 (at' : Nat)) ∧ w' = w := by
  have c1 := two_cell1 hR.heap
  go_enter Try.func25, Try.ntmps25
  go_wp2_with fail
  go_ret
  exact ⟨rfl, rfl⟩

theorem rtake_nil (d : Int) (w : World) : Calls Try.prog 24 #[.pointer none, .int .i64 d] w fun e w' => e = .returned (.tuple #[.int .i64 0, .int .i64 1]) ∧ w' = w := by
  go_enter Try.func24, Try.ntmps24
  go_wp2_with fail
  go_ret2
  exact ⟨rfl, rfl⟩
theorem rones_nil (d : Int) (w : World) : Calls Try.prog 22 #[.pointer none, .int .i64 d] w fun e w' => e = .returned (.tuple #[.int .i64 0, .int .i64 1]) ∧ w' = w := by
  go_enter Try.func22, Try.ntmps22
  go_wp2_with fail
  go_ret2
  exact ⟨rfl, rfl⟩
theorem rat_nil (w : World) : Calls Try.prog 25 #[.pointer none] w fun e w' => e = .returned (.int .i64 0) ∧ w' = w := by
  go_enter Try.func25, Try.ntmps25
  go_wp2_with fail
  go_ret
  exact ⟨rfl, rfl⟩
theorem rleft_nil (w : World) : Calls Try.prog 26 #[.pointer none] w fun e w' => e = .returned (.int .i64 0) ∧ w' = w := by
  go_enter Try.func26, Try.ntmps26
  go_wp2_with fail
  go_ret
  exact ⟨rfl, rfl⟩
theorem rend_nil (w : World) : Calls Try.prog 27 #[.pointer none] w fun e w' => e = .returned (.int .i64 1) ∧ w' = w := by
  go_enter Try.func27, Try.ntmps27
  go_wp2_with fail
  go_ret
  exact ⟨rfl, rfl⟩

end Go.Proofs.Ytkmhdkeneggceaa
