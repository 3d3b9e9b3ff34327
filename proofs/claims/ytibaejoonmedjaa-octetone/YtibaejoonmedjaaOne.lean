/-
  OctetOne holds: for every list of bytes, what octet's readers take as a number are just the bytes that this number is written as, and a reader that refuses has not moved; and the argument reads as before. No condition.
-/
import Derived.Test.YtibaejoonmedjaaRows
import Derived.Test.YtibaejoonmedjaaOpen
namespace Go.Proofs.Ytibaejoonmedjaa
open Go.ChangeShapes Go.WideShapes Go.ChangeAt Go.RowKit Oct
set_option linter.unusedVariables false

theorem rLeft_n (r g : Nat) (zs : List Int) (l : Nat) (w : World) (hR : Rd w r g zs) (hl : zs.length = l) :
    Calls Try.prog 23 #[.pointer (some ⟨r, 0, none⟩)] w fun e w' => e = .returned (.int .i64 l) ∧ w' = w := by
  subst hl
  exact rLeft_any r g zs w hR

theorem uint_v (n : Int) (l : Nat) (zs : List Int) (w : World) (h0 : 0 ≤ n) (h1 : n ≤ 9223372036854775807) (hz : vint n = zs) (hl : zs.length = l) :
    Calls Try.prog 9 #[.int .i64 n] w fun e w' => ∃ a c, e = .returned (.tuple #[.slice a l c, .int .i64 0]) ∧ Bytes w' a l c zs ∧ Below w.heap.size w w' := by
  subst hl hz
  exact uint_b n w h0 h1
theorem int_v (n : Int) (l : Nat) (zs : List Int) (w : World) (h0 : -9223372036854775808 ≤ n) (h1 : n ≤ 9223372036854775807) (hz : vint (zz n) = zs) (hl : zs.length = l) :
    Calls Try.prog 13 #[.int .i64 n] w fun e w' => ∃ a c, e = .returned (.slice a l c) ∧ Bytes w' a l c zs ∧ Below w.heap.size w w' := by
  subst hl hz
  exact int_b n w h0 h1

theorem zero_vint : vint 0 = [0] := by decide
theorem zero_zz : vint (zz 0) = [0] := by decide

/-- A slice cut at its head's k elements, as the walk writes it, when nothing is known of an empty slice's address. -/
theorem same_cut (a1 a2 : Option Addr) (n1 k c1 c2 : Nat) (z z2 : List Int) (w : World) (h1 : Bytes w a1 n1 c1 z) (hk : k ≤ n1) (hz : z.take k = z2) (h2 : Bytes w a2 k c2 z2) :
    Calls Try.prog 12 #[.slice a1 k c1, .slice a2 k c2] w fun e w' => e = .returned (.bool true) ∧ ∃ q, w' = w.drewN q := by
  have h := h1.take hk
  rw [hz] at h
  exact same_self a1 a2 k k c1 c2 z2 w h h2

set_option maxHeartbeats 4000000 in
theorem oneA (a : Option Addr) (n c : Nat) (zs : List Int) (w : World) (hb : Bytes w a n c zs) (hsum : n ≤ 140737488355328) (X : Int) (m : Nat) (hX0 : 0 ≤ X) (hX1 : X ≤ 9223372036854775807) (hm : m = (vint X).length) (hmn : m ≤ n) (htk : zs.take m = vint X) (hU : rdU zs = (X, m, 0)) (hI : rdI zs = (uz X, m, 0)) :
    Calls Try.prog 7 #[.slice a n c] w fun e w' => e = .returned (.bool true) ∧ Below w.heap.size w w' := by
  have HB : Hid (Bytes w a n c zs) := hb
  have HLEN : Hid (zs.length = n) := hb.len
  have hnc : n ≤ c := hb.le
  have hcm : c ≤ 9223372036854775807 := by have := hb.max; unfold maxLen at this; omega
  clear hb
  have HU : Hid (rdU zs = (X, m, 0)) := hU
  have HI : Hid (rdI zs = (uz X, m, 0)) := hI
  have HT : Hid (zs.take m = vint X) := htk
  have HM : Hid ((vint X).length = m) := hm.symm
  have HZ : Hid (vint (zz (uz X)) = vint X) := by show _ = _; rw [zz_uz X hX0]
  clear hU hI htk hm
  obtain ⟨LU, hL1, hL2⟩ : ∃ L, L + m ≤ n ∧ n ≤ L + m := ⟨n - m, by omega, by omega⟩
  obtain ⟨LI, hL3, hL4⟩ : ∃ L, L + m ≤ n ∧ n ≤ L + m := ⟨n - m, by omega, by omega⟩
  have hq1 : ((LU : Int) != (n : Int) - (m : Int)) = false := by simp; omega
  have hq2 : ((LI : Int) != (n : Int) - (m : Int)) = false := by simp; omega
  obtain ⟨hz1, hz2⟩ := uz_range X hX0 (by omega)
  go_enter Try.func7, Try.ntmps7
  go_wp2_with fail
  refine (new_any a n c zs _ HB.out (by omega)).mono ?_
  rintro e w1 ⟨r, g1, rfl, hR1, hr1, hg1, hr1', hb1⟩
  have HB1 : Hid (Below w.heap.size w w1) := hb1
  have HR1 : Hid (Rd w1 r g1 zs) := hR1
  have hg1' : g1 < w1.heap.size := hR1.lt.1
  have hB1 : Bytes w1 a n c zs := HB.out.later hb1
  clear hR1 hb1
  go_wp2_with fail
  refine (new_any a n c zs _ hB1 (by omega)).mono ?_
  rintro e w2 ⟨s, g2, rfl, hR2, hs2, hg2, hs2', hb2⟩
  have HB2 : Hid (Below w.heap.size w w2) := below_step HB1.out hb2
  have HR2 : Hid (Rd w2 r g1 zs) := HR1.out.later hb2
  have HS2 : Hid (Rd w2 s g2 zs) := hR2
  clear hR2 hb2 hB1
  go_wp2_with fail
  refine (awake_any _).mono ?_
  rintro e w3 ⟨rfl, hb3⟩
  have HB3 : Hid (Below w.heap.size w w3) := below_step HB2.out hb3
  have HR3 : Hid (Rd w3 r g1 zs) := HR2.out.later hb3
  have HS3 : Hid (Rd w3 s g2 zs) := HS2.out.later hb3
  clear hb3
  go_wp2_with fail
  refine (rUint_any r g1 zs _ HR3.out).mono ?_
  rw [HU.out]
  rintro e w4 ⟨rfl, hR4, hg4⟩
  have HB4 : Hid (Below w.heap.size w w4) := HB3.out.trans (below_grown hg4 hr1 HB3.out.size)
  have HR4 : Hid (Rd w4 r g1 (zs.drop m)) := hR4
  have HS4 : Hid (Rd w4 s g2 zs) := HS3.out.kept hg4 (by simp; omega) (by simp; omega)
  clear hR4 hg4
  go_wp2_with fail
  refine (rInt_any s g2 zs _ HS4.out).mono ?_
  rw [HI.out]
  rintro e w5 ⟨rfl, hS5, hg5⟩
  have HB5 : Hid (Below w.heap.size w w5) := HB4.out.trans (below_grown hg5 (by have := HB1.out.size; omega) HB4.out.size)
  have HS5 : Hid (Rd w5 s g2 (zs.drop m)) := hS5
  have HR5 : Hid (Rd w5 r g1 (zs.drop m)) := HR4.out.kept hg5 (by simp; omega) (by simp; omega)
  clear hS5 hg5
  go_wp2_with fail
  refine (uint_v X m (vint X) _ hX0 hX1 rfl HM.out).mono ?_
  rintro e w6 ⟨a6, c6, rfl, hB6, hb6⟩
  have HB6 : Hid (Below w.heap.size w w6) := below_step HB5.out hb6
  have HR6 : Hid (Rd w6 r g1 (zs.drop m)) := HR5.out.later hb6
  have HS6 : Hid (Rd w6 s g2 (zs.drop m)) := HS5.out.later hb6
  have HU6 := hide hB6
  clear hb6 hB6
  go_wp2_with fail
  refine (int_v (uz X) m (vint X) _ hz1 hz2 HZ.out HM.out).mono ?_
  rintro e w7 ⟨a7, c7, rfl, hB7, hb7⟩
  have HB7 : Hid (Below w.heap.size w w7) := below_step HB6.out hb7
  have HR7 : Hid (Rd w7 r g1 (zs.drop m)) := HR6.out.later hb7
  have HS7 : Hid (Rd w7 s g2 (zs.drop m)) := HS6.out.later hb7
  have HU7 := hide (HU6.out.later hb7)
  have HI7 := hide hB7
  clear hb7 hB7
  go_wp2_with fail
  refine (rLeft_n r g1 _ LU _ HR7.out (by rw [List.length_drop, HLEN.out]; omega)).mono ?_
  rintro e w8 ⟨rfl, rfl⟩
  go_wp2_with fail
  refine (rLeft_n s g2 _ LI _ HS7.out (by rw [List.length_drop, HLEN.out]; omega)).mono ?_
  rintro e w9 ⟨rfl, rfl⟩
  have HB9 : Hid (Bytes w9 a n c zs) := HB.out.later HB7.out
  go_wp2_with fail
  refine (same_cut a a6 n m c c6 zs (vint X) _ HB9.out hmn HT.out HU7.out).mono ?_
  rintro e w10 ⟨rfl, q1, rfl⟩
  go_wp2_with fail
  refine (same_cut a a7 n m c c7 zs (vint X) _ (HB9.out.drewN q1) hmn HT.out (HI7.out.drewN q1)).mono ?_
  rintro e w11 ⟨rfl, q2, rfl⟩
  go_wp2_with fail
  go_ret
  exact ⟨rfl, below_drewN HB7.out _⟩

set_option maxHeartbeats 4000000 in
theorem oneB (a : Option Addr) (n c : Nat) (zs : List Int) (w : World) (hb : Bytes w a n c zs) (hsum : n ≤ 140737488355328) (X : Int) (m : Nat) (hX0 : 0 ≤ X) (hX1 : X < 18446744073709551616) (hm : m = (vint X).length) (hmn : m ≤ n) (htk : zs.take m = vint X) (hU : rdU zs = (0, 0, 3)) (hI : rdI zs = (uz X, m, 0)) :
    Calls Try.prog 7 #[.slice a n c] w fun e w' => e = .returned (.bool true) ∧ Below w.heap.size w w' := by
  have HB : Hid (Bytes w a n c zs) := hb
  have HLEN : Hid (zs.length = n) := hb.len
  have hnc : n ≤ c := hb.le
  have hcm : c ≤ 9223372036854775807 := by have := hb.max; unfold maxLen at this; omega
  clear hb
  have HU : Hid (rdU zs = (0, 0, 3)) := hU
  have HI : Hid (rdI zs = (uz X, m, 0)) := hI
  have HT : Hid (zs.take m = vint X) := htk
  have HM : Hid ((vint X).length = m) := hm.symm
  have HZ : Hid (vint (zz (uz X)) = vint X) := by show _ = _; rw [zz_uz X hX0]
  clear hU hI htk hm
  obtain ⟨LI, hL3, hL4⟩ : ∃ L, L + m ≤ n ∧ n ≤ L + m := ⟨n - m, by omega, by omega⟩
  have hq2 : ((LI : Int) != (n : Int) - (m : Int)) = false := by simp; omega
  obtain ⟨hz1, hz2⟩ := uz_range X hX0 (by omega)
  go_enter Try.func7, Try.ntmps7
  go_wp2_with fail
  refine (new_any a n c zs _ HB.out (by omega)).mono ?_
  rintro e w1 ⟨r, g1, rfl, hR1, hr1, hg1, hr1', hb1⟩
  have HB1 : Hid (Below w.heap.size w w1) := hb1
  have HR1 : Hid (Rd w1 r g1 zs) := hR1
  have hg1' : g1 < w1.heap.size := hR1.lt.1
  have hB1 : Bytes w1 a n c zs := HB.out.later hb1
  clear hR1 hb1
  go_wp2_with fail
  refine (new_any a n c zs _ hB1 (by omega)).mono ?_
  rintro e w2 ⟨s, g2, rfl, hR2, hs2, hg2, hs2', hb2⟩
  have HB2 : Hid (Below w.heap.size w w2) := below_step HB1.out hb2
  have HR2 : Hid (Rd w2 r g1 zs) := HR1.out.later hb2
  have HS2 : Hid (Rd w2 s g2 zs) := hR2
  clear hR2 hb2 hB1
  go_wp2_with fail
  refine (awake_any _).mono ?_
  rintro e w3 ⟨rfl, hb3⟩
  have HB3 : Hid (Below w.heap.size w w3) := below_step HB2.out hb3
  have HR3 : Hid (Rd w3 r g1 zs) := HR2.out.later hb3
  have HS3 : Hid (Rd w3 s g2 zs) := HS2.out.later hb3
  clear hb3
  go_wp2_with fail
  refine (rUint_any r g1 zs _ HR3.out).mono ?_
  rw [HU.out]
  rintro e w4 ⟨rfl, hR4, hg4⟩
  have HB4 : Hid (Below w.heap.size w w4) := HB3.out.trans (below_grown hg4 hr1 HB3.out.size)
  have HR4 : Hid (Rd w4 r g1 (zs.drop 0)) := hR4
  have HS4 : Hid (Rd w4 s g2 zs) := HS3.out.kept hg4 (by simp; omega) (by simp; omega)
  clear hR4 hg4
  go_wp2_with fail
  refine (rInt_any s g2 zs _ HS4.out).mono ?_
  rw [HI.out]
  rintro e w5 ⟨rfl, hS5, hg5⟩
  have HB5 : Hid (Below w.heap.size w w5) := HB4.out.trans (below_grown hg5 (by have := HB1.out.size; omega) HB4.out.size)
  have HS5 : Hid (Rd w5 s g2 (zs.drop m)) := hS5
  have HR5 : Hid (Rd w5 r g1 (zs.drop 0)) := HR4.out.kept hg5 (by simp; omega) (by simp; omega)
  clear hS5 hg5
  go_wp2_with fail
  refine (uint_v 0 1 [0] _ (by omega) (by omega) zero_vint rfl).mono ?_
  rintro e w6 ⟨a6, c6, rfl, hB6, hb6⟩
  have HB6 : Hid (Below w.heap.size w w6) := below_step HB5.out hb6
  have HR6 : Hid (Rd w6 r g1 (zs.drop 0)) := HR5.out.later hb6
  have HS6 : Hid (Rd w6 s g2 (zs.drop m)) := HS5.out.later hb6
  have HU6 := hide hB6
  clear hb6 hB6
  go_wp2_with fail
  refine (int_v (uz X) m (vint X) _ hz1 hz2 HZ.out HM.out).mono ?_
  rintro e w7 ⟨a7, c7, rfl, hB7, hb7⟩
  have HB7 : Hid (Below w.heap.size w w7) := below_step HB6.out hb7
  have HR7 : Hid (Rd w7 r g1 (zs.drop 0)) := HR6.out.later hb7
  have HS7 : Hid (Rd w7 s g2 (zs.drop m)) := HS6.out.later hb7
  have HU7 := hide (HU6.out.later hb7)
  have HI7 := hide hB7
  clear hb7 hB7
  go_wp2_with fail
  refine (rLeft_n r g1 _ n _ HR7.out (by rw [List.length_drop, HLEN.out]; omega)).mono ?_
  rintro e w8 ⟨rfl, rfl⟩
  go_wp2_with fail
  refine (rLeft_n s g2 _ LI _ HS7.out (by rw [List.length_drop, HLEN.out]; omega)).mono ?_
  rintro e w9 ⟨rfl, rfl⟩
  have HB9 : Hid (Bytes w9 a n c zs) := HB.out.later HB7.out
  go_wp2_with fail
  refine (same_cut a none n 0 c 0 zs [] _ HB9.out (Nat.zero_le _) rfl (bytes_nil _)).mono ?_
  rintro e w10 ⟨rfl, q1, rfl⟩
  go_wp2_with fail
  refine (same_cut a a7 n m c c7 zs (vint X) _ (HB9.out.drewN q1) hmn HT.out (HI7.out.drewN q1)).mono ?_
  rintro e w11 ⟨rfl, q2, rfl⟩
  go_wp2_with fail
  go_ret
  exact ⟨rfl, below_drewN HB7.out _⟩

set_option maxHeartbeats 4000000 in
theorem oneC (a : Option Addr) (n c : Nat) (zs : List Int) (w : World) (hb : Bytes w a n c zs) (hsum : n ≤ 140737488355328) (er : Int) (her : (er != 0) = true) (her2 : (er == 0) = false) (hU : rdU zs = (0, 0, er)) (hI : rdI zs = (0, 0, er)) :
    Calls Try.prog 7 #[.slice a n c] w fun e w' => e = .returned (.bool true) ∧ Below w.heap.size w w' := by
  have HB : Hid (Bytes w a n c zs) := hb
  have HLEN : Hid (zs.length = n) := hb.len
  have hnc : n ≤ c := hb.le
  have hcm : c ≤ 9223372036854775807 := by have := hb.max; unfold maxLen at this; omega
  clear hb
  have HU : Hid (rdU zs = (0, 0, er)) := hU
  have HI : Hid (rdI zs = (0, 0, er)) := hI
  clear hU hI
  go_enter Try.func7, Try.ntmps7
  go_wp2_with fail
  refine (new_any a n c zs _ HB.out (by omega)).mono ?_
  rintro e w1 ⟨r, g1, rfl, hR1, hr1, hg1, hr1', hb1⟩
  have HB1 : Hid (Below w.heap.size w w1) := hb1
  have HR1 : Hid (Rd w1 r g1 zs) := hR1
  have hg1' : g1 < w1.heap.size := hR1.lt.1
  have hB1 : Bytes w1 a n c zs := HB.out.later hb1
  clear hR1 hb1
  go_wp2_with fail
  refine (new_any a n c zs _ hB1 (by omega)).mono ?_
  rintro e w2 ⟨s, g2, rfl, hR2, hs2, hg2, hs2', hb2⟩
  have HB2 : Hid (Below w.heap.size w w2) := below_step HB1.out hb2
  have HR2 : Hid (Rd w2 r g1 zs) := HR1.out.later hb2
  have HS2 : Hid (Rd w2 s g2 zs) := hR2
  clear hR2 hb2 hB1
  go_wp2_with fail
  refine (awake_any _).mono ?_
  rintro e w3 ⟨rfl, hb3⟩
  have HB3 : Hid (Below w.heap.size w w3) := below_step HB2.out hb3
  have HR3 : Hid (Rd w3 r g1 zs) := HR2.out.later hb3
  have HS3 : Hid (Rd w3 s g2 zs) := HS2.out.later hb3
  clear hb3
  go_wp2_with fail
  refine (rUint_any r g1 zs _ HR3.out).mono ?_
  rw [HU.out]
  rintro e w4 ⟨rfl, hR4, hg4⟩
  have HB4 : Hid (Below w.heap.size w w4) := HB3.out.trans (below_grown hg4 hr1 HB3.out.size)
  have HR4 : Hid (Rd w4 r g1 (zs.drop 0)) := hR4
  have HS4 : Hid (Rd w4 s g2 zs) := HS3.out.kept hg4 (by simp; omega) (by simp; omega)
  clear hR4 hg4
  go_wp2_with fail
  refine (rInt_any s g2 zs _ HS4.out).mono ?_
  rw [HI.out]
  rintro e w5 ⟨rfl, hS5, hg5⟩
  have HB5 : Hid (Below w.heap.size w w5) := HB4.out.trans (below_grown hg5 (by have := HB1.out.size; omega) HB4.out.size)
  have HS5 : Hid (Rd w5 s g2 (zs.drop 0)) := hS5
  have HR5 : Hid (Rd w5 r g1 (zs.drop 0)) := HR4.out.kept hg5 (by simp; omega) (by simp; omega)
  clear hS5 hg5
  go_wp2_with fail
  refine (uint_v 0 1 [0] _ (by omega) (by omega) zero_vint rfl).mono ?_
  rintro e w6 ⟨a6, c6, rfl, hB6, hb6⟩
  have HB6 : Hid (Below w.heap.size w w6) := below_step HB5.out hb6
  have HR6 : Hid (Rd w6 r g1 (zs.drop 0)) := HR5.out.later hb6
  have HS6 : Hid (Rd w6 s g2 (zs.drop 0)) := HS5.out.later hb6
  have HU6 := hide hB6
  clear hb6 hB6
  go_wp2_with fail
  refine (int_v 0 1 [0] _ (by omega) (by omega) zero_zz rfl).mono ?_
  rintro e w7 ⟨a7, c7, rfl, hB7, hb7⟩
  have HB7 : Hid (Below w.heap.size w w7) := below_step HB6.out hb7
  have HR7 : Hid (Rd w7 r g1 (zs.drop 0)) := HR6.out.later hb7
  have HS7 : Hid (Rd w7 s g2 (zs.drop 0)) := HS6.out.later hb7
  have HU7 := hide (HU6.out.later hb7)
  have HI7 := hide hB7
  clear hb7 hB7
  go_wp2_with fail
  refine (rLeft_n r g1 _ n _ HR7.out (by rw [List.length_drop, HLEN.out]; omega)).mono ?_
  rintro e w8 ⟨rfl, rfl⟩
  go_wp2_with fail
  refine (rLeft_n s g2 _ n _ HS7.out (by rw [List.length_drop, HLEN.out]; omega)).mono ?_
  rintro e w9 ⟨rfl, rfl⟩
  have HB9 : Hid (Bytes w9 a n c zs) := HB.out.later HB7.out
  go_wp2_with fail
  refine (same_cut a none n 0 c 0 zs [] _ HB9.out (Nat.zero_le _) rfl (bytes_nil _)).mono ?_
  rintro e w10 ⟨rfl, q1, rfl⟩
  go_wp2_with fail
  refine (same_cut a none n 0 c 0 zs [] _ (HB9.out.drewN q1) (Nat.zero_le _) rfl (bytes_nil _)).mono ?_
  rintro e w11 ⟨rfl, q2, rfl⟩
  go_wp2_with fail
  go_ret
  exact ⟨rfl, below_drewN HB7.out _⟩


theorem one_walk (a : Option Addr) (n c : Nat) (zs : List Int) (w : World) (hb : Bytes w a n c zs) (hsum : n ≤ 140737488355328) :
    Calls Try.prog 7 #[.slice a n c] w fun e w' => e = .returned (.bool true) ∧ Below w.heap.size w w' := by
  rcases scan_cases zs hb.byte with ⟨X, hs, hX0, hX1, hvl, htk⟩ | hs | hs
  · have hmn : (vint X).length ≤ n := by rw [← hb.len]; exact hvl
    by_cases hbig : 9223372036854775807 < X
    · exact oneB a n c zs w hb hsum X _ hX0 hX1 rfl hmn htk (rdU_big hs hbig) (rdI_ok hs)
    · exact oneA a n c zs w hb hsum X _ hX0 (by omega) rfl hmn htk (rdU_ok hs hbig) (rdI_ok hs)
  · exact oneC a n c zs w hb hsum 2 rfl rfl (rdU_err hs (by decide)) (rdI_err hs (by decide))
  · exact oneC a n c zs w hb hsum 3 rfl rfl (rdU_err hs (by decide)) (rdI_err hs (by decide))

set_option maxRecDepth 100000 in
theorem octetOne_lifted (os : Os) (started : os.Started) (H : Type) (enc : TypeId × Value → H) :
    ReturnsInHanded {} Try.checked os 7 .any (Rows.octetOneSpec.pre6 enc Try.prog Try.f7 Rows.octetOneRow.domain false) (Rows.octetOneSpec.post enc Try.prog Try.f7 false true false false) := by
  refine returnsInHanded_of_change_sized (C := Try.checked) own started (by kernel_rfl) Try.func7
    (ChangeSpec.witness6 (enc := enc) (C := Try.checked) false ⟨#[], #[.slice none 0 0], []⟩ 8 (by kernel_rfl) (by kernel_rfl) (by kernel_rfl) (by kernel_rfl)) ?_
  intro W base args ds gs before hval0 hW _ hsz0 _
  have hsz : (DataW.weightsEach Try.prog (Try.f7.params.toList ++ Rows.octetOneSpec.plain.varTypes Try.prog) (ds ++ gs)).all (· ≤ reachBytes) = true := hsz0
  have hval : ∀ (j : Nat) t v, Try.f7.params[j]? = some t → args[j]? = some v → Value.okWide Try.prog W .any base t v := hval0
  have hW' := hW
  obtain ⟨p, q, hA0, hV, rfl, hfz, hnd⟩ := hW
  have hA : DataW.TrodAll enc Try.prog W 0 (fun _ => true) true Try.f7.params.toList args.toList ds p := hA0
  rw [Try.params7] at hA hval hsz
  obtain ⟨v0, vs0, d0, ds0, p0, q0, hargs, rfl, rfl, h0, r0⟩ := trodAll_cons hA
  obtain ⟨rfl, rfl, rfl⟩ := trodAll_nil r0
  obtain rfl : args = #[v0] := by cases args; simp_all
  obtain ⟨rfl, rfl⟩ := trodVars_none hV
  obtain ⟨a0, n, c, rfl⟩ := okWide_slice Try.underlying22 (hval 0 22 v0 rfl rfl)
  have k0 := h0
  have lt0 : ∀ x ∈ p0, x.block < W.heap.size := by obtain ⟨m, hm⟩ := k0; exact DataW.trod_lt m _ _ _ hm
  obtain ⟨zs, hb, hd⟩ := open_bytes h0
  have hreach := bytes_reach hb hd hsz 0 rfl rfl
  clear hA0 hval0 hsz0
  refine (one_walk a0 n c zs W hb (by omega)).mono fun e W' ⟨he, bel⟩ => ?_
  subst he
  exact ⟨_, rfl, _, _, _, [], _, [], hW', trodAll_mk1 (shut_bool Try.underlying4 _), trodAll_cons_mk (Below.trod laidOut (by kernel_rfl) (of_decide_eq_true (by kernel_rfl)) k0 bel lt0) trodAll_mk0, rfl, bel.frame _, fun h => by cases h⟩

theorem octetOne_holds : Rows.OctetOneSaid :=
  OpenClaim.holds_of_wide 7 Try.f7 rfl rfl rfl rfl rfl rfl rfl ⟨rfl, rfl, rfl, rfl, rfl⟩ rfl rfl rfl rfl rfl (by kernel_rfl) Try.func7 (by kernel_rfl)
    (of_decide_eq_true (by kernel_rfl)) (by unfold Func.isWrapper; first | (rw [if_pos (by decide +kernel)]; kernel_rfl) | (rw [if_neg (by decide +kernel)]; exact ⟨rfl, rfl⟩))
    (fun os started H enc _ => octetOne_lifted os started H enc)
#print axioms octetOne_holds

end Go.Proofs.Ytibaejoonmedjaa
