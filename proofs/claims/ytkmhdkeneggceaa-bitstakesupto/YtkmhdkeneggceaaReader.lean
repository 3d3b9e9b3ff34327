/-
  The walks of a reader's methods: what they read, and where the reader stands then.
-/
import Derived.Test.YtkmhdkeneggceaaSame
namespace Go.Proofs.Ytkmhdkeneggceaa
open Go.RowKit Bt
set_option linter.unusedVariables false

namespace Bt
/-- Take, by definition: the number, the bits that it takes, the error. -/
def tk (f : Nat → Int) (at' left : Nat) (d : Int) : Int × Nat × Int :=
  if d < 0 ∨ 32 < d then (0, 0, 1) else if left < d.toNat then (0, 0, 2) else (num f at' d.toNat, d.toNat, 0)

/-- How many ones come next, no further than m. -/
def lead (f : Nat → Int) (at' : Nat) : Nat → Nat
  | 0 => 0
  | m + 1 => if f at' = 0 then 0 else lead f (at' + 1) m + 1

/-- Ones, by definition. -/
def ct (f : Nat → Int) (at' left : Nat) (d : Int) : Int × Nat × Int :=
  if d < 0 ∨ 64 < d then (0, 0, 1) else
    if lead f at' (min d.toNat left) = d.toNat then (d, d.toNat, 0) else
      if lead f at' (min d.toNat left) = left then (0, 0, 2) else (lead f at' (min d.toNat left), lead f at' (min d.toNat left) + 1, 0)

theorem lead_spec (f : Nat → Int) (at' m : Nat) : lead f at' m ≤ m ∧ (∀ i, i < lead f at' m → f (at' + i) ≠ 0) ∧ (lead f at' m < m → f (at' + lead f at' m) = 0) := by
  induction m generalizing at' with
  | zero => simp [lead]
  | succ m ih =>
    obtain ⟨h1, h2, h3⟩ := ih (at' + 1)
    unfold lead
    split
    · rename_i h; simp [h]
    · rename_i h
      refine ⟨by omega, fun i hi => ?_, fun hlt => ?_⟩
      · cases i with
        | zero => exact h
        | succ i => have := h2 i (by omega); rw [show at' + (i + 1) = at' + 1 + i by omega]; exact this
      · have := h3 (by omega)
        rw [show at' + (lead f (at' + 1) m + 1) = at' + 1 + lead f (at' + 1) m by omega]; exact this

theorem lead_congr {f g : Nat → Int} {a b m : Nat} (h : ∀ i, i < m → f (a + i) = g (b + i)) : lead f a m = lead g b m := by
  induction m generalizing a b with
  | zero => rfl
  | succ m ih =>
    have h0 := h 0 (by omega)
    have h' : lead f (a + 1) m = lead g (b + 1) m := ih (fun i hi => by have := h (i + 1) (by omega); rw [show a + 1 + i = a + (i + 1) by omega, show b + 1 + i = b + (i + 1) by omega]; exact this)
    simp only [Nat.add_zero] at h0
    unfold lead
    rw [h0, h']

theorem tk_congr {f g : Nat → Int} {a b left : Nat} (h : ∀ i, i < left → f (a + i) = g (b + i)) (d : Int) : tk f a left d = tk g b left d := by
  unfold tk
  split
  · rfl
  · split
    · rfl
    · rw [num_congr (fun i hi => h i (by omega))]

theorem ct_congr {f g : Nat → Int} {a b left : Nat} (h : ∀ i, i < left → f (a + i) = g (b + i)) (d : Int) : ct f a left d = ct g b left d := by
  unfold ct
  rw [lead_congr (f := f) (g := g) (a := a) (b := b) (m := min d.toNat left) (fun i hi => h i (by omega))]

/-- The end, by definition. -/
def en (f : Nat → Int) (at' left : Nat) : Int := if 8 ≤ left then 5 else if ∀ i, i < left → f (at' + i) = 0 then 0 else 3
theorem en_congr {f g : Nat → Int} {a b left : Nat} (h : ∀ i, i < left → f (a + i) = g (b + i)) : en f a left = en g b left := by
  unfold en
  split
  · rfl
  · have : (∀ i, i < left → f (a + i) = 0) ↔ (∀ i, i < left → g (b + i) = 0) := ⟨fun H i hi => by rw [← h i hi]; exact H i hi, fun H i hi => by rw [h i hi]; exact H i hi⟩
    simp only [this]
end Bt

theorem ownsRow_slice {w : World} {base e n : Nat} {v : Value} {xs : List Value} (h : w.ownsRow base e 1 v n xs) (hn : n ≠ 0) : ∃ g cap, v = .slice (some ⟨g, 0, none⟩) n cap := by
  rcases h.2 with ⟨rfl, h0⟩ | ⟨g, cap, cur, rfl, _⟩
  · exact absurd h0 hn
  · exact ⟨g, cap, rfl⟩

theorem Rd.cell {base : Nat} {w : World} {r g cap : Nat} {zs : List Int} {at' : Nat} (h : Rd base w r (.slice (some ⟨g, 0, none⟩) zs.length cap) zs at') {j : Nat} (hj : j < zs.length) : w.cell? ⟨g, j, none⟩ = some (.int .u8 (zs.getD j 0)) := by
  rw [h.own.cellAt j (by simpa using hj)]
  simp [u8s, List.getD, hj]

theorem ret_int {k : IntKind} {a b : Int} (h : a = b) : Ending.returned (.int k a) = .returned (.int k b) := by rw [h]

theorem wt_pow (k : Nat) (x : Int) : x / 2 ^ (7 - k % 8) = x / wt (k % 8) := rfl

set_option maxHeartbeats 1000000 in
theorem next_any (base r : Nat) (v : Value) (zs : List Int) (at' i : Nat) (w : World) (hR : Rd base w r v zs at') (hi : at' + i < 8 * zs.length) :
    Calls Try.prog 34 #[.pointer (some ⟨r, 0, none⟩), .int .i64 (i : Nat)] w fun e w' => e = .returned (.int .i64 (bitAt zs (at' + i))) ∧ w' = w := by
  obtain ⟨g, cap, rfl⟩ := ownsRow_slice hR.own (by omega)
  have c0 := two_cell0 hR.heap
  have c1 := two_cell1 hR.heap
  have cg := hR.cell (j := (at' + i) / 8) (by omega)
  have hs := hR.short
  have HE : Hid (bits BinOp.and IntKind.i64 (zs.getD ((at' + i) / 8) 0 / 2 ^ (7 - (at' + i) % 8)) 1 = bitAt zs (at' + i)) := hide (and_one_i64 _)
  obtain ⟨hx0, hx1⟩ := getD_byte hR.byte ((at' + i) / 8)
  generalize zs.getD ((at' + i) / 8) 0 = x at *
  generalize hl : zs.length = L at *
  clear hR
  go_enter Try.func34, Try.ntmps34
  go_wp2_with fail
  go_ret
  exact ⟨ret_int HE.out, rfl⟩

theorem left_any (base r : Nat) (v : Value) (zs : List Int) (at' : Nat) (w : World) (hR : Rd base w r v zs at') :
    Calls Try.prog 26 #[.pointer (some ⟨r, 0, none⟩)] w fun e w' => e = .returned (.int .i64 (8 * zs.length - at' : Nat)) ∧ w' = w.drew := by
  obtain ⟨a, cap, rfl, _, _⟩ := Bytes.of_owns hR.own hR.byte
  have c0 := two_cell0 hR.heap
  have c1 := two_cell1 hR.heap
  have hs := hR.short
  have hle := hR.le
  generalize hl : zs.length = L at *
  clear hR
  go_enter Try.func26, Try.ntmps26
  go_wp2_with fail
  go_region
  go_wp2_with fail
  go_ret
  exact ⟨ret_int (by omega), rfl⟩

theorem or_bit (x b : Int) (h0 : 0 ≤ x) (h1 : x < 4294967296) (hb0 : 0 ≤ b) (hb1 : b ≤ 1) : bits BinOp.or IntKind.i64 (x * 2) b = 2 * x + b := by
  rw [bits_join .i64 40 (by decide) (fun n h h' => by rw [IntKind.wrap_i64]; omega) 1 (x * 2) b (by omega) (by omega) (by omega) hb0 (by omega) (by omega)]
  omega

theorem Rd.drew {base r : Nat} {v : Value} {zs : List Int} {at' : Nat} {w : World} (h : Rd base w r v zs at') : Rd base w.drew r v zs at' := ⟨h.heap, h.own, h.base, h.byte, h.le, h.short⟩

theorem grownBy_drew' {w w' : World} {row : Option Nat} (h : w.drew.grownBy w' row) : w.grownBy w' row := ⟨h.os, h.tape, h.output, h.size, h.block⟩

theorem tk_bad {f : Nat → Int} {a l : Nat} {d : Int} (h : d < 0 ∨ 32 < d) : tk f a l d = (0, 0, 1) := by unfold tk; rw [if_pos h]
theorem tk_short {f : Nat → Int} {a l k : Nat} (h : k ≤ 32) (h2 : l < k) : tk f a l k = (0, 0, 2) := by unfold tk; rw [if_neg (by omega)]; simp [h2]
theorem tk_ok {f : Nat → Int} {a l k : Nat} (h : k ≤ 32) (h2 : k ≤ l) : tk f a l k = (num f a k, k, 0) := by unfold tk; rw [if_neg (by omega)]; simp; omega

theorem ret_two {x y : Int} {t : Int × Nat × Int} (h : t.1 = x) (h2 : t.2.2 = y) : Ending.returned (.tuple #[.int .i64 x, .int .i64 y]) = .returned (.tuple #[.int .i64 t.1, .int .i64 t.2.2]) := by rw [h, h2]

theorem pow_le_32 {k : Nat} (h : k ≤ 32) : (2 : Int) ^ k ≤ 4294967296 := by
  have : ∀ k, k ≤ 32 → (2 : Int) ^ k ≤ 4294967296 := by decide +kernel
  exact this k h

set_option maxHeartbeats 2000000 in
theorem take_any (base r : Nat) (v : Value) (zs : List Int) (at' : Nat) (d : Int) (w : World) (hR : Rd base w r v zs at') :
    Calls Try.prog 24 #[.pointer (some ⟨r, 0, none⟩), .int .i64 d] w fun e w' =>
      e = .returned (.tuple #[.int .i64 (tk (bitAt zs) at' (8 * zs.length - at') d).1, .int .i64 (tk (bitAt zs) at' (8 * zs.length - at') d).2.2]) ∧
      Rd base w' r v zs (at' + (tk (bitAt zs) at' (8 * zs.length - at') d).2.1) ∧ w.grownBy w' (some r) := by
  have HR := hide hR
  have hle := hR.le
  have hs := hR.short
  clear hR
  by_cases h1 : d < 0
  · rw [tk_bad (.inl h1)]
    go_enter Try.func24, Try.ntmps24
    go_wp2_with fail
    go_ret2
    exact ⟨rfl, HR.out, World.grownBy.refl _ _⟩
  · by_cases h2 : 32 < d
    · rw [tk_bad (.inr h2)]
      go_enter Try.func24, Try.ntmps24
      go_wp2_with fail
      go_ret2
      exact ⟨rfl, HR.out, World.grownBy.refl _ _⟩
    · obtain ⟨k, rfl⟩ := Int.eq_ofNat_of_zero_le (show 0 ≤ d by omega)
      by_cases h3 : 8 * zs.length - at' < k
      · rw [tk_short (by omega) h3]
        go_enter Try.func24, Try.ntmps24
        go_wp2_with fail
        refine (left_any base r v zs at' w HR.out).mono ?_
        rintro e w1 ⟨rfl, rfl⟩
        go_wp2_with fail
        go_ret2
        exact ⟨rfl, HR.out.drew, grownBy_drew' (World.grownBy.refl _ _)⟩
      · have HT := hide (tk_ok (f := bitAt zs) (a := at') (show k ≤ 32 by omega) (show k ≤ 8 * zs.length - at' by omega))
        go_enter Try.func24, Try.ntmps24
        go_wp2_with fail
        refine (left_any base r v zs at' w HR.out).mono ?_
        rintro e w1 ⟨rfl, rfl⟩
        have HR1 := hide HR.out.drew
        have HG1 := hide (grownBy_drew' (World.grownBy.refl w.drew (some r)))
        generalize hw1 : w.drew = w1 at *
        clear hw1
        go_wp2_with fail
        go_loop [23, 6] (fun i n => ∃ j : Nat, j ≤ k ∧ i = .int .i64 (j : Nat) ∧ n = .int .i64 (num (bitAt zs) at' j)) (fun i _ => k - (intOf i).toNat)
        case atStart => exact ⟨0, Nat.zero_le _, rfl, rfl⟩
        case round =>
          obtain ⟨j, hj, rfl, rfl⟩ := hrel
          obtain ⟨hn0, hn1⟩ := num_range (bitAt_bin zs) at' j
          have hn2 : num (bitAt zs) at' j < 4294967296 := Int.lt_of_lt_of_le hn1 (pow_le_32 (by omega))
          by_cases hlt : j < k
          · have HS : Hid (num (bitAt zs) at' (j + 1) = 2 * num (bitAt zs) at' j + bitAt zs (at' + j)) := rfl
            have HO := hide (or_bit (num (bitAt zs) at' j) (bitAt zs (at' + j)) hn0 hn2 (bitAt_bin zs _).1 (bitAt_bin zs _).2)
            generalize hN : num (bitAt zs) at' j = N at *
            clear hn1
            go_wp2_with fail
            refine (next_any base r v zs at' j w1 HR1.out (by omega)).mono ?_
            rintro e w2 ⟨rfl, rfl⟩
            go_wp2_with fail
            go_round
            case rel => exact ⟨j + 1, by omega, by go_num, by rw [HO.out, HS.out]⟩
            case measure => simp [intOf]; omega
          · obtain rfl : j = k := by omega
            have c1 := two_cell1 HR1.out.heap
            have f1 := two_free 1 HR1.out.heap
            have HM := hide (HR1.out.moved (x := (at' : Int) + (j : Int)) (y := at' + j) (by omega) (by omega))
            go_wp2_with fail
            go_ret2
            refine ⟨ret_two (by rw [HT.out]) (by rw [HT.out]), ?_, ?_⟩
            · rw [HT.out]; exact HM.out.1
            · exact HG1.out.trans HM.out.2

end Go.Proofs.Ytkmhdkeneggceaa
