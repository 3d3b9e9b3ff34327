/-
  The document's own plain: the number, whatever its size, and what may not be.
-/
import Derived.Test.YtihbhbeaihdgnaaGreatRSpRefC
import Derived.Test.YtihbhbeaihdgnaaGreatRSpRefD
namespace Go.Proofs.YtihbhbeaihdgnaaGreat.Spn
open Go.RowKit Go.IntWalk
set_option linter.unusedVariables false

theorem prod_bd {x k : Int} (hk : 1 ≤ k) (h0 : ¬ 4611686018427387904 < max x (-x) * k) : -4611686018427387904 ≤ x * k ∧ x * k ≤ 4611686018427387904 := by
  rcases Int.le_total 0 x with h | h
  · rw [show max x (-x) = x by omega] at h0
    have : 0 ≤ x * k := Int.mul_nonneg h (by omega)
    omega
  · rw [show max x (-x) = -x by omega, Int.neg_mul] at h0
    have : 0 ≤ -x * k := Int.mul_nonneg (by omega) (by omega)
    rw [Int.neg_mul] at this
    omega

theorem tr_bd' (x : Bool) : 0 ≤ tr x ∧ tr x ≤ 1 := by cases x <;> decide

set_option maxRecDepth 100000 in
set_option maxHeartbeats 1000000 in
theorem pl_5 (k s x : Int) (b off cap : Nat) (w : World) (hcap : 1 ≤ cap) (hx : -2147483648 ≤ x ∧ x ≤ 2147483647) 
    (c0 : w.cell? ⟨b, off, none⟩ = some (.int .i64 x)) :
    Calls Tryz.prog 131 #[.int .i64 5, .int .i64 k, .int .i64 s, .slice (some ⟨b, off, none⟩) 1 cap] w fun e w' => e = .returned (.tuple #[.int .i64 (ex 5 k s x 0 0).1, .int .i64 (ex 5 k s x 0 0).2]) ∧ w' = w := by
  rw [show ex 5 k s x 0 0 = (-x, 0) from rfl]
  go_enter Tryz.func131, Tryz.ntmps131
  go_wp2_with fail
  go_ret2
  exact ⟨ret_two (by omega) rfl, rfl⟩

set_option maxRecDepth 100000 in
set_option maxHeartbeats 1000000 in
theorem pl_6 (k s x : Int) (b off cap : Nat) (w : World) (hcap : 1 ≤ cap) (hx : -2147483648 ≤ x ∧ x ≤ 2147483647) 
    (c0 : w.cell? ⟨b, off, none⟩ = some (.int .i64 x)) :
    Calls Tryz.prog 131 #[.int .i64 6, .int .i64 k, .int .i64 s, .slice (some ⟨b, off, none⟩) 1 cap] w fun e w' => e = .returned (.tuple #[.int .i64 (ex 6 k s x 0 0).1, .int .i64 (ex 6 k s x 0 0).2]) ∧ w' = w := by
  go_enter Tryz.func131, Tryz.ntmps131
  go_wp2_with fail
  refine (rsize_any x _ (by omega)).mono ?_
  rintro e w' ⟨rfl, rfl⟩
  go_wp2_with fail
  go_ret2
  exact ⟨rfl, rfl⟩

set_option maxRecDepth 100000 in
set_option maxHeartbeats 1000000 in
theorem pl_7 (k s x : Int) (b off cap : Nat) (w : World) (hcap : 1 ≤ cap) (hx : -2147483648 ≤ x ∧ x ≤ 2147483647) 
    (c0 : w.cell? ⟨b, off, none⟩ = some (.int .i64 x)) :
    Calls Tryz.prog 131 #[.int .i64 7, .int .i64 k, .int .i64 s, .slice (some ⟨b, off, none⟩) 1 cap] w fun e w' => e = .returned (.tuple #[.int .i64 (ex 7 k s x 0 0).1, .int .i64 (ex 7 k s x 0 0).2]) ∧ w' = w := by
  have b1 := tr_bd' (decide (0 < x))
  have b2 := tr_bd' (decide (x < 0))
  rw [show ex 7 k s x 0 0 = (tr (decide (0 < x)) - tr (decide (x < 0)), 0) from rfl]
  generalize h1 : tr (decide (0 < x)) = t1 at *
  generalize h2 : tr (decide (x < 0)) = t2 at *
  have H1 := hide h1
  have H2 := hide h2
  clear h1 h2
  go_enter Tryz.func131, Tryz.ntmps131
  go_wp2_with fail
  refine (H1.out ▸ rtruth_any (decide (0 < x)) _).mono ?_
  rintro e w' ⟨rfl, rfl⟩
  go_wp2_with fail
  refine (H2.out ▸ rtruth_any (decide (x < 0)) _).mono ?_
  rintro e w' ⟨rfl, rfl⟩
  go_wp2_with fail
  go_ret2
  exact ⟨rfl, rfl⟩

set_option maxRecDepth 100000 in
set_option maxHeartbeats 1000000 in
theorem pl_29 (k s x : Int) (b off cap : Nat) (w : World) (hcap : 1 ≤ cap) (hx : -2147483648 ≤ x ∧ x ≤ 2147483647) (hk : 0 ≤ k ∧ k ≤ 31)
    (c0 : w.cell? ⟨b, off, none⟩ = some (.int .i64 x)) :
    Calls Tryz.prog 131 #[.int .i64 29, .int .i64 k, .int .i64 s, .slice (some ⟨b, off, none⟩) 1 cap] w fun e w' => e = .returned (.tuple #[.int .i64 (ex 29 k s x 0 0).1, .int .i64 (ex 29 k s x 0 0).2]) ∧ w' = w := by
  have hP := pow_bd k.toNat 31 (by omega)
  have hM := mul_wd (b := 2 ^ k.toNat) hx (by omega)
  have PW := hide (fun w => rpower_any k w (by omega))
  go_enter Tryz.func131, Tryz.ntmps131
  go_wp2_with fail
  refine (PW.out _).mono ?_
  rintro e w' ⟨rfl, rfl⟩
  go_wp2_with fail
  go_ret2
  exact ⟨rfl, rfl⟩

set_option maxRecDepth 100000 in
set_option maxHeartbeats 1000000 in
theorem pl_30 (k s x : Int) (b off cap : Nat) (w : World) (hcap : 1 ≤ cap) (hx : -2147483648 ≤ x ∧ x ≤ 2147483647) (hk : 0 ≤ k ∧ k ≤ 31)
    (c0 : w.cell? ⟨b, off, none⟩ = some (.int .i64 x)) :
    Calls Tryz.prog 131 #[.int .i64 30, .int .i64 k, .int .i64 s, .slice (some ⟨b, off, none⟩) 1 cap] w fun e w' => e = .returned (.tuple #[.int .i64 (ex 30 k s x 0 0).1, .int .i64 (ex 30 k s x 0 0).2]) ∧ w' = w := by
  have hP := pow_bd k.toNat 31 (by omega)
  have PW := hide (fun w => rpower_any k w (by omega))
  have FL := hide (fun w => rfloor_any x (2 ^ k.toNat) w (by omega) (by omega))
  go_enter Tryz.func131, Tryz.ntmps131
  go_wp2_with fail
  refine (PW.out _).mono ?_
  rintro e w' ⟨rfl, rfl⟩
  go_wp2_with fail
  refine (FL.out _).mono ?_
  rintro e w' ⟨rfl, rfl⟩
  go_wp2_with fail
  go_ret2
  exact ⟨rfl, rfl⟩

set_option maxRecDepth 100000 in
set_option maxHeartbeats 1000000 in
theorem pl_31 (k s x : Int) (b off cap : Nat) (w : World) (hcap : 1 ≤ cap) (hx : -2147483648 ≤ x ∧ x ≤ 2147483647) (hk : 0 ≤ k ∧ k ≤ 2147483647)
    (c0 : w.cell? ⟨b, off, none⟩ = some (.int .i64 x)) :
    Calls Tryz.prog 131 #[.int .i64 31, .int .i64 k, .int .i64 s, .slice (some ⟨b, off, none⟩) 1 cap] w fun e w' => e = .returned (.tuple #[.int .i64 (ex 31 k s x 0 0).1, .int .i64 (ex 31 k s x 0 0).2]) ∧ w' = w := by
  have BW := hide (fun w => rbitwise_any .and 15 x k w rfl hx (by omega))
  go_enter Tryz.func131, Tryz.ntmps131
  go_wp2_with fail
  refine (BW.out _).mono ?_
  rintro e w' ⟨rfl, rfl⟩
  go_wp2_with fail
  go_ret2
  exact ⟨rfl, rfl⟩

set_option maxRecDepth 100000 in
set_option maxHeartbeats 1000000 in
theorem pl_32 (k s x : Int) (b off cap : Nat) (w : World) (hcap : 1 ≤ cap) (hx : -2147483648 ≤ x ∧ x ≤ 2147483647) (hk : -2147483648 ≤ k ∧ k ≤ 2147483647)
    (c0 : w.cell? ⟨b, off, none⟩ = some (.int .i64 x)) :
    Calls Tryz.prog 131 #[.int .i64 32, .int .i64 k, .int .i64 s, .slice (some ⟨b, off, none⟩) 1 cap] w fun e w' => e = .returned (.tuple #[.int .i64 (ex 32 k s x 0 0).1, .int .i64 (ex 32 k s x 0 0).2]) ∧ w' = w := by
  have hM := mul_wd (b := k) hx (by omega)
  go_enter Tryz.func131, Tryz.ntmps131
  go_wp2_with fail
  go_ret2
  exact ⟨rfl, rfl⟩

set_option maxRecDepth 100000 in
set_option maxHeartbeats 1000000 in
theorem pl_33z (k s x : Int) (b off cap : Nat) (w : World) (hcap : 1 ≤ cap) (hx : -2147483648 ≤ x ∧ x ≤ 2147483647) (hk : 1 ≤ k ∧ k ≤ 4611686018427387904) (hs : 0 ≤ s ∧ s ≤ 62) (h0 : x = 0)
    (c0 : w.cell? ⟨b, off, none⟩ = some (.int .i64 x)) :
    Calls Tryz.prog 131 #[.int .i64 33, .int .i64 k, .int .i64 s, .slice (some ⟨b, off, none⟩) 1 cap] w fun e w' => e = .returned (.tuple #[.int .i64 (ex 33 k s x 0 0).1, .int .i64 (ex 33 k s x 0 0).2]) ∧ w' = w := by
  subst h0
  have hP := pow_bd s.toNat 62 (by omega)
  have PW := hide (fun w => rpower_any s w (by omega))
  have FL := hide (fun w => rfloor_any 0 (2 ^ s.toNat) w (by omega) (by omega))
  rw [show ex 33 k s 0 0 0 = (0, 0) by simp [ex]]
  go_enter Tryz.func131, Tryz.ntmps131
  go_wp2_with fail
  refine (PW.out _).mono ?_
  rintro e w' ⟨rfl, rfl⟩
  go_wp2_with fail
  refine (FL.out _).mono ?_
  rintro e w' ⟨rfl, rfl⟩
  go_wp2_with fail
  go_ret2
  exact ⟨rfl, rfl⟩

set_option maxRecDepth 100000 in
set_option maxHeartbeats 1000000 in
theorem pl_33b (k s x : Int) (b off cap : Nat) (w : World) (hcap : 1 ≤ cap) (hx : -2147483648 ≤ x ∧ x ≤ 2147483647) (hk : 1 ≤ k ∧ k ≤ 4611686018427387904) (hs : 0 ≤ s ∧ s ≤ 62) (h0 : x ≠ 0) (hb : 4611686018427387904 < max x (-x) * k)
    (c0 : w.cell? ⟨b, off, none⟩ = some (.int .i64 x)) :
    Calls Tryz.prog 131 #[.int .i64 33, .int .i64 k, .int .i64 s, .slice (some ⟨b, off, none⟩) 1 cap] w fun e w' => e = .returned (.tuple #[.int .i64 (ex 33 k s x 0 0).1, .int .i64 (ex 33 k s x 0 0).2]) ∧ w' = w := by
  rw [show ex 33 k s x 0 0 = (0, 13) by simp [ex, hb]]
  have h1 : 4611686018427387904 / max x (-x) < k := (div_test (m := k) (k := max x (-x)) (by omega)).2 (by rw [Int.mul_comm]; exact hb)
  have h2 : 1 ≤ max x (-x) := by omega
  have h3 : (x != 0) = true := by simp [h0]
  have SZ := hide (fun w => rsize_any x w (by omega))
  clear hb h0
  generalize max x (-x) = M at *
  go_enter Tryz.func131, Tryz.ntmps131
  go_wp2_with fail
  refine (SZ.out _).mono ?_
  rintro e w' ⟨rfl, rfl⟩
  go_wp2_with fail
  go_ret2
  exact ⟨rfl, rfl⟩

set_option maxRecDepth 100000 in
set_option maxHeartbeats 1000000 in
theorem pl_33s (k s x : Int) (b off cap : Nat) (w : World) (hcap : 1 ≤ cap) (hx : -2147483648 ≤ x ∧ x ≤ 2147483647) (hk : 1 ≤ k ∧ k ≤ 4611686018427387904) (hs : 0 ≤ s ∧ s ≤ 62) (h0 : x ≠ 0) (hb : ¬ 4611686018427387904 < max x (-x) * k)
    (c0 : w.cell? ⟨b, off, none⟩ = some (.int .i64 x)) :
    Calls Tryz.prog 131 #[.int .i64 33, .int .i64 k, .int .i64 s, .slice (some ⟨b, off, none⟩) 1 cap] w fun e w' => e = .returned (.tuple #[.int .i64 (ex 33 k s x 0 0).1, .int .i64 (ex 33 k s x 0 0).2]) ∧ w' = w := by
  rw [show ex 33 k s x 0 0 = (x * k / 2 ^ s.toNat, 0) by simp [ex, hb]]
  have h1 : ¬ 4611686018427387904 / max x (-x) < k := fun h => hb (by rw [Int.mul_comm]; exact (div_test (m := k) (k := max x (-x)) (by omega)).1 h)
  have h2 : 1 ≤ max x (-x) := by omega
  have h3 : (x != 0) = true := by simp [h0]
  have hM := prod_bd hk.1 hb
  have hP := pow_bd s.toNat 62 (by omega)
  have SZ := hide (fun w => rsize_any x w (by omega))
  have PW := hide (fun w => rpower_any s w (by omega))
  have FL := hide (fun w => rfloor_any (x * k) (2 ^ s.toNat) w hM (by omega))
  clear hb h0
  generalize max x (-x) = M at *
  go_enter Tryz.func131, Tryz.ntmps131
  go_wp2_with fail
  refine (SZ.out _).mono ?_
  rintro e w' ⟨rfl, rfl⟩
  go_wp2_with fail
  refine (PW.out _).mono ?_
  rintro e w' ⟨rfl, rfl⟩
  go_wp2_with fail
  refine (FL.out _).mono ?_
  rintro e w' ⟨rfl, rfl⟩
  go_wp2_with fail
  go_ret2
  exact ⟨rfl, rfl⟩

set_option maxRecDepth 100000 in
set_option maxHeartbeats 1000000 in
theorem pl_8 (k s x y : Int) (b off cap : Nat) (w : World) (hcap : 2 ≤ cap) (hx : -2147483648 ≤ x ∧ x ≤ 2147483647) (hy : -2147483648 ≤ y ∧ y ≤ 2147483647) 
    (c0 : w.cell? ⟨b, off, none⟩ = some (.int .i64 x)) (c1 : w.cell? ⟨b, off + 1, none⟩ = some (.int .i64 y)) :
    Calls Tryz.prog 131 #[.int .i64 8, .int .i64 k, .int .i64 s, .slice (some ⟨b, off, none⟩) 2 cap] w fun e w' => e = .returned (.tuple #[.int .i64 (ex 8 k s x y 0).1, .int .i64 (ex 8 k s x y 0).2]) ∧ w' = w := by
  go_enter Tryz.func131, Tryz.ntmps131
  go_wp2_with fail
  go_ret2
  exact ⟨rfl, rfl⟩

set_option maxRecDepth 100000 in
set_option maxHeartbeats 1000000 in
theorem pl_9 (k s x y : Int) (b off cap : Nat) (w : World) (hcap : 2 ≤ cap) (hx : -2147483648 ≤ x ∧ x ≤ 2147483647) (hy : -2147483648 ≤ y ∧ y ≤ 2147483647) 
    (c0 : w.cell? ⟨b, off, none⟩ = some (.int .i64 x)) (c1 : w.cell? ⟨b, off + 1, none⟩ = some (.int .i64 y)) :
    Calls Tryz.prog 131 #[.int .i64 9, .int .i64 k, .int .i64 s, .slice (some ⟨b, off, none⟩) 2 cap] w fun e w' => e = .returned (.tuple #[.int .i64 (ex 9 k s x y 0).1, .int .i64 (ex 9 k s x y 0).2]) ∧ w' = w := by
  go_enter Tryz.func131, Tryz.ntmps131
  go_wp2_with fail
  go_ret2
  exact ⟨rfl, rfl⟩

set_option maxRecDepth 100000 in
set_option maxHeartbeats 1000000 in
theorem pl_10 (k s x y : Int) (b off cap : Nat) (w : World) (hcap : 2 ≤ cap) (hx : -2147483648 ≤ x ∧ x ≤ 2147483647) (hy : -2147483648 ≤ y ∧ y ≤ 2147483647) 
    (c0 : w.cell? ⟨b, off, none⟩ = some (.int .i64 x)) (c1 : w.cell? ⟨b, off + 1, none⟩ = some (.int .i64 y)) :
    Calls Tryz.prog 131 #[.int .i64 10, .int .i64 k, .int .i64 s, .slice (some ⟨b, off, none⟩) 2 cap] w fun e w' => e = .returned (.tuple #[.int .i64 (ex 10 k s x y 0).1, .int .i64 (ex 10 k s x y 0).2]) ∧ w' = w := by
  have hM := mul_wd (b := y) hx (by omega)
  go_enter Tryz.func131, Tryz.ntmps131
  go_wp2_with fail
  go_ret2
  exact ⟨rfl, rfl⟩

set_option maxRecDepth 100000 in
set_option maxHeartbeats 1000000 in
theorem pl_11z (k s x y : Int) (b off cap : Nat) (w : World) (hcap : 2 ≤ cap) (hx : -2147483648 ≤ x ∧ x ≤ 2147483647) (hy : -2147483648 ≤ y ∧ y ≤ 2147483647) (h0 : y = 0)
    (c0 : w.cell? ⟨b, off, none⟩ = some (.int .i64 x)) (c1 : w.cell? ⟨b, off + 1, none⟩ = some (.int .i64 y)) :
    Calls Tryz.prog 131 #[.int .i64 11, .int .i64 k, .int .i64 s, .slice (some ⟨b, off, none⟩) 2 cap] w fun e w' => e = .returned (.tuple #[.int .i64 (ex 11 k s x y 0).1, .int .i64 (ex 11 k s x y 0).2]) ∧ w' = w := by
  subst h0
  go_enter Tryz.func131, Tryz.ntmps131
  go_wp2_with fail
  go_ret2
  exact ⟨rfl, rfl⟩

set_option maxRecDepth 100000 in
set_option maxHeartbeats 1000000 in
theorem pl_12z (k s x y : Int) (b off cap : Nat) (w : World) (hcap : 2 ≤ cap) (hx : -2147483648 ≤ x ∧ x ≤ 2147483647) (hy : -2147483648 ≤ y ∧ y ≤ 2147483647) (h0 : y = 0)
    (c0 : w.cell? ⟨b, off, none⟩ = some (.int .i64 x)) (c1 : w.cell? ⟨b, off + 1, none⟩ = some (.int .i64 y)) :
    Calls Tryz.prog 131 #[.int .i64 12, .int .i64 k, .int .i64 s, .slice (some ⟨b, off, none⟩) 2 cap] w fun e w' => e = .returned (.tuple #[.int .i64 (ex 12 k s x y 0).1, .int .i64 (ex 12 k s x y 0).2]) ∧ w' = w := by
  subst h0
  go_enter Tryz.func131, Tryz.ntmps131
  go_wp2_with fail
  go_ret2
  exact ⟨rfl, rfl⟩

set_option maxRecDepth 100000 in
set_option maxHeartbeats 1000000 in
theorem pl_11 (k s x y : Int) (b off cap : Nat) (w : World) (hcap : 2 ≤ cap) (hx : -2147483648 ≤ x ∧ x ≤ 2147483647) (hy : -2147483648 ≤ y ∧ y ≤ 2147483647) (h0 : y ≠ 0)
    (c0 : w.cell? ⟨b, off, none⟩ = some (.int .i64 x)) (c1 : w.cell? ⟨b, off + 1, none⟩ = some (.int .i64 y)) :
    Calls Tryz.prog 131 #[.int .i64 11, .int .i64 k, .int .i64 s, .slice (some ⟨b, off, none⟩) 2 cap] w fun e w' => e = .returned (.tuple #[.int .i64 (ex 11 k s x y 0).1, .int .i64 (ex 11 k s x y 0).2]) ∧ w' = w := by
  have h1 : (y == 0) = false := by simp [h0]
  rw [show ex 11 k s x y 0 = (x.tdiv y, 0) by simp [ex, h0]]
  have DV := hide (fun w => rdivide_any x y w hx hy h0)
  clear h0
  go_enter Tryz.func131, Tryz.ntmps131
  go_wp2_with fail
  refine (DV.out _).mono ?_
  rintro e w' ⟨rfl, rfl⟩
  go_wp2_with fail
  go_ret2
  exact ⟨rfl, rfl⟩

set_option maxRecDepth 100000 in
set_option maxHeartbeats 1000000 in
theorem pl_12 (k s x y : Int) (b off cap : Nat) (w : World) (hcap : 2 ≤ cap) (hx : -2147483648 ≤ x ∧ x ≤ 2147483647) (hy : -2147483648 ≤ y ∧ y ≤ 2147483647) (h0 : y ≠ 0)
    (c0 : w.cell? ⟨b, off, none⟩ = some (.int .i64 x)) (c1 : w.cell? ⟨b, off + 1, none⟩ = some (.int .i64 y)) :
    Calls Tryz.prog 131 #[.int .i64 12, .int .i64 k, .int .i64 s, .slice (some ⟨b, off, none⟩) 2 cap] w fun e w' => e = .returned (.tuple #[.int .i64 (ex 12 k s x y 0).1, .int .i64 (ex 12 k s x y 0).2]) ∧ w' = w := by
  have h1 : (y == 0) = false := by simp [h0]
  have h2 := Int.mul_tdiv_add_tmod x y
  have h3 : (x.tmod y).natAbs < y.natAbs := by rw [Int.natAbs_tmod]; exact Nat.mod_lt _ (by omega)
  rw [show ex 12 k s x y 0 = (x.tmod y, 0) by simp [ex, h0]]
  have DV := hide (fun w => rdivide_any x y w hx hy h0)
  generalize x.tmod y = r at *
  generalize x.tdiv y = q at *
  have h4 : -4294967296 ≤ y * q ∧ y * q ≤ 4294967296 := ⟨by omega, by omega⟩
  have H5 := hide (show x - y * q = r by omega)
  have h6 : -4294967296 ≤ r ∧ r ≤ 4294967296 := ⟨by omega, by omega⟩
  clear h0 h2 h3
  go_enter Tryz.func131, Tryz.ntmps131
  go_wp2_with fail
  refine (DV.out _).mono ?_
  rintro e w' ⟨rfl, rfl⟩
  go_wp2_with fail
  go_ret2
  exact ⟨ret_two H5.out rfl, rfl⟩

set_option maxRecDepth 100000 in
set_option maxHeartbeats 1000000 in
theorem pl_13lo (k s x y : Int) (b off cap : Nat) (w : World) (hcap : 2 ≤ cap) (hx : -2147483648 ≤ x ∧ x ≤ 2147483647) (hy : -2147483648 ≤ y ∧ y ≤ 2147483647) (h0 : y < 0)
    (c0 : w.cell? ⟨b, off, none⟩ = some (.int .i64 x)) (c1 : w.cell? ⟨b, off + 1, none⟩ = some (.int .i64 y)) :
    Calls Tryz.prog 131 #[.int .i64 13, .int .i64 k, .int .i64 s, .slice (some ⟨b, off, none⟩) 2 cap] w fun e w' => e = .returned (.tuple #[.int .i64 (ex 13 k s x y 0).1, .int .i64 (ex 13 k s x y 0).2]) ∧ w' = w := by
  rw [show ex 13 k s x y 0 = (0, 13) by simp [ex, inB_f (x := y) (l := 0) (h := 31) (by omega)]]
  go_enter Tryz.func131, Tryz.ntmps131
  go_wp2_with fail
  go_ret2
  exact ⟨rfl, rfl⟩

set_option maxRecDepth 100000 in
set_option maxHeartbeats 1000000 in
theorem pl_13hi (k s x y : Int) (b off cap : Nat) (w : World) (hcap : 2 ≤ cap) (hx : -2147483648 ≤ x ∧ x ≤ 2147483647) (hy : -2147483648 ≤ y ∧ y ≤ 2147483647) (h0 : 31 < y)
    (c0 : w.cell? ⟨b, off, none⟩ = some (.int .i64 x)) (c1 : w.cell? ⟨b, off + 1, none⟩ = some (.int .i64 y)) :
    Calls Tryz.prog 131 #[.int .i64 13, .int .i64 k, .int .i64 s, .slice (some ⟨b, off, none⟩) 2 cap] w fun e w' => e = .returned (.tuple #[.int .i64 (ex 13 k s x y 0).1, .int .i64 (ex 13 k s x y 0).2]) ∧ w' = w := by
  rw [show ex 13 k s x y 0 = (0, 13) by simp [ex, inB_f (x := y) (l := 0) (h := 31) (by omega)]]
  go_enter Tryz.func131, Tryz.ntmps131
  go_wp2_with fail
  go_ret2
  exact ⟨rfl, rfl⟩

set_option maxRecDepth 100000 in
set_option maxHeartbeats 1000000 in
theorem pl_14lo (k s x y : Int) (b off cap : Nat) (w : World) (hcap : 2 ≤ cap) (hx : -2147483648 ≤ x ∧ x ≤ 2147483647) (hy : -2147483648 ≤ y ∧ y ≤ 2147483647) (h0 : y < 0)
    (c0 : w.cell? ⟨b, off, none⟩ = some (.int .i64 x)) (c1 : w.cell? ⟨b, off + 1, none⟩ = some (.int .i64 y)) :
    Calls Tryz.prog 131 #[.int .i64 14, .int .i64 k, .int .i64 s, .slice (some ⟨b, off, none⟩) 2 cap] w fun e w' => e = .returned (.tuple #[.int .i64 (ex 14 k s x y 0).1, .int .i64 (ex 14 k s x y 0).2]) ∧ w' = w := by
  rw [show ex 14 k s x y 0 = (0, 13) by simp [ex, inB_f (x := y) (l := 0) (h := 31) (by omega)]]
  go_enter Tryz.func131, Tryz.ntmps131
  go_wp2_with fail
  go_ret2
  exact ⟨rfl, rfl⟩

set_option maxRecDepth 100000 in
set_option maxHeartbeats 1000000 in
theorem pl_14hi (k s x y : Int) (b off cap : Nat) (w : World) (hcap : 2 ≤ cap) (hx : -2147483648 ≤ x ∧ x ≤ 2147483647) (hy : -2147483648 ≤ y ∧ y ≤ 2147483647) (h0 : 31 < y)
    (c0 : w.cell? ⟨b, off, none⟩ = some (.int .i64 x)) (c1 : w.cell? ⟨b, off + 1, none⟩ = some (.int .i64 y)) :
    Calls Tryz.prog 131 #[.int .i64 14, .int .i64 k, .int .i64 s, .slice (some ⟨b, off, none⟩) 2 cap] w fun e w' => e = .returned (.tuple #[.int .i64 (ex 14 k s x y 0).1, .int .i64 (ex 14 k s x y 0).2]) ∧ w' = w := by
  rw [show ex 14 k s x y 0 = (0, 13) by simp [ex, inB_f (x := y) (l := 0) (h := 31) (by omega)]]
  go_enter Tryz.func131, Tryz.ntmps131
  go_wp2_with fail
  go_ret2
  exact ⟨rfl, rfl⟩

set_option maxRecDepth 100000 in
set_option maxHeartbeats 1000000 in
theorem pl_13 (k s x y : Int) (b off cap : Nat) (w : World) (hcap : 2 ≤ cap) (hx : -2147483648 ≤ x ∧ x ≤ 2147483647) (hy : -2147483648 ≤ y ∧ y ≤ 2147483647) (h0 : 0 ≤ y ∧ y ≤ 31)
    (c0 : w.cell? ⟨b, off, none⟩ = some (.int .i64 x)) (c1 : w.cell? ⟨b, off + 1, none⟩ = some (.int .i64 y)) :
    Calls Tryz.prog 131 #[.int .i64 13, .int .i64 k, .int .i64 s, .slice (some ⟨b, off, none⟩) 2 cap] w fun e w' => e = .returned (.tuple #[.int .i64 (ex 13 k s x y 0).1, .int .i64 (ex 13 k s x y 0).2]) ∧ w' = w := by
  rw [show ex 13 k s x y 0 = (x * 2 ^ y.toNat, 0) by simp [ex, inB_t h0.1 h0.2]]
  have hP := pow_bd y.toNat 31 (by omega)
  have hM := mul_wd (b := 2 ^ y.toNat) hx (by omega)
  have PW := hide (fun w => rpower_any y w (by omega))
  go_enter Tryz.func131, Tryz.ntmps131
  go_wp2_with fail
  refine (PW.out _).mono ?_
  rintro e w' ⟨rfl, rfl⟩
  go_wp2_with fail
  go_ret2
  exact ⟨rfl, rfl⟩

set_option maxRecDepth 100000 in
set_option maxHeartbeats 1000000 in
theorem pl_14 (k s x y : Int) (b off cap : Nat) (w : World) (hcap : 2 ≤ cap) (hx : -2147483648 ≤ x ∧ x ≤ 2147483647) (hy : -2147483648 ≤ y ∧ y ≤ 2147483647) (h0 : 0 ≤ y ∧ y ≤ 31)
    (c0 : w.cell? ⟨b, off, none⟩ = some (.int .i64 x)) (c1 : w.cell? ⟨b, off + 1, none⟩ = some (.int .i64 y)) :
    Calls Tryz.prog 131 #[.int .i64 14, .int .i64 k, .int .i64 s, .slice (some ⟨b, off, none⟩) 2 cap] w fun e w' => e = .returned (.tuple #[.int .i64 (ex 14 k s x y 0).1, .int .i64 (ex 14 k s x y 0).2]) ∧ w' = w := by
  rw [show ex 14 k s x y 0 = (x / 2 ^ y.toNat, 0) by simp [ex, inB_t h0.1 h0.2]]
  have hP := pow_bd y.toNat 31 (by omega)
  have PW := hide (fun w => rpower_any y w (by omega))
  have FL := hide (fun w => rfloor_any x (2 ^ y.toNat) w (by omega) (by omega))
  go_enter Tryz.func131, Tryz.ntmps131
  go_wp2_with fail
  refine (PW.out _).mono ?_
  rintro e w' ⟨rfl, rfl⟩
  go_wp2_with fail
  refine (FL.out _).mono ?_
  rintro e w' ⟨rfl, rfl⟩
  go_wp2_with fail
  go_ret2
  exact ⟨rfl, rfl⟩

set_option maxRecDepth 100000 in
set_option maxHeartbeats 1000000 in
theorem pl_15 (k s x y : Int) (b off cap : Nat) (w : World) (hcap : 2 ≤ cap) (hx : -2147483648 ≤ x ∧ x ≤ 2147483647) (hy : -2147483648 ≤ y ∧ y ≤ 2147483647) 
    (c0 : w.cell? ⟨b, off, none⟩ = some (.int .i64 x)) (c1 : w.cell? ⟨b, off + 1, none⟩ = some (.int .i64 y)) :
    Calls Tryz.prog 131 #[.int .i64 15, .int .i64 k, .int .i64 s, .slice (some ⟨b, off, none⟩) 2 cap] w fun e w' => e = .returned (.tuple #[.int .i64 (ex 15 k s x y 0).1, .int .i64 (ex 15 k s x y 0).2]) ∧ w' = w := by
  have BW := hide (fun w => rbitwise_any .and 15 x y w rfl hx hy)
  go_enter Tryz.func131, Tryz.ntmps131
  go_wp2_with fail
  refine (BW.out _).mono ?_
  rintro e w' ⟨rfl, rfl⟩
  go_wp2_with fail
  go_ret2
  exact ⟨rfl, rfl⟩

set_option maxRecDepth 100000 in
set_option maxHeartbeats 1000000 in
theorem pl_16 (k s x y : Int) (b off cap : Nat) (w : World) (hcap : 2 ≤ cap) (hx : -2147483648 ≤ x ∧ x ≤ 2147483647) (hy : -2147483648 ≤ y ∧ y ≤ 2147483647) 
    (c0 : w.cell? ⟨b, off, none⟩ = some (.int .i64 x)) (c1 : w.cell? ⟨b, off + 1, none⟩ = some (.int .i64 y)) :
    Calls Tryz.prog 131 #[.int .i64 16, .int .i64 k, .int .i64 s, .slice (some ⟨b, off, none⟩) 2 cap] w fun e w' => e = .returned (.tuple #[.int .i64 (ex 16 k s x y 0).1, .int .i64 (ex 16 k s x y 0).2]) ∧ w' = w := by
  have BW := hide (fun w => rbitwise_any .or 16 x y w rfl hx hy)
  go_enter Tryz.func131, Tryz.ntmps131
  go_wp2_with fail
  refine (BW.out _).mono ?_
  rintro e w' ⟨rfl, rfl⟩
  go_wp2_with fail
  go_ret2
  exact ⟨rfl, rfl⟩

set_option maxRecDepth 100000 in
set_option maxHeartbeats 1000000 in
theorem pl_17 (k s x y : Int) (b off cap : Nat) (w : World) (hcap : 2 ≤ cap) (hx : -2147483648 ≤ x ∧ x ≤ 2147483647) (hy : -2147483648 ≤ y ∧ y ≤ 2147483647) 
    (c0 : w.cell? ⟨b, off, none⟩ = some (.int .i64 x)) (c1 : w.cell? ⟨b, off + 1, none⟩ = some (.int .i64 y)) :
    Calls Tryz.prog 131 #[.int .i64 17, .int .i64 k, .int .i64 s, .slice (some ⟨b, off, none⟩) 2 cap] w fun e w' => e = .returned (.tuple #[.int .i64 (ex 17 k s x y 0).1, .int .i64 (ex 17 k s x y 0).2]) ∧ w' = w := by
  have BW := hide (fun w => rbitwise_any .xor 17 x y w rfl hx hy)
  go_enter Tryz.func131, Tryz.ntmps131
  go_wp2_with fail
  refine (BW.out _).mono ?_
  rintro e w' ⟨rfl, rfl⟩
  go_wp2_with fail
  go_ret2
  exact ⟨rfl, rfl⟩

set_option maxRecDepth 100000 in
set_option maxHeartbeats 1000000 in
theorem pl_18 (k s x y : Int) (b off cap : Nat) (w : World) (hcap : 2 ≤ cap)  
    (c0 : w.cell? ⟨b, off, none⟩ = some (.int .i64 x)) (c1 : w.cell? ⟨b, off + 1, none⟩ = some (.int .i64 y)) :
    Calls Tryz.prog 131 #[.int .i64 18, .int .i64 k, .int .i64 s, .slice (some ⟨b, off, none⟩) 2 cap] w fun e w' => e = .returned (.tuple #[.int .i64 (ex 18 k s x y 0).1, .int .i64 (ex 18 k s x y 0).2]) ∧ w' = w := by
  have CH := hide (fun w => rchosen_any 18 k s x y 0 w rfl)
  go_enter Tryz.func131, Tryz.ntmps131
  go_wp2_with fail
  refine (CH.out _).mono ?_
  rintro e w' ⟨rfl, rfl⟩
  go_wp2_with fail
  go_ret2
  exact ⟨rfl, rfl⟩

set_option maxRecDepth 100000 in
set_option maxHeartbeats 1000000 in
theorem pl_19 (k s x y : Int) (b off cap : Nat) (w : World) (hcap : 2 ≤ cap)  
    (c0 : w.cell? ⟨b, off, none⟩ = some (.int .i64 x)) (c1 : w.cell? ⟨b, off + 1, none⟩ = some (.int .i64 y)) :
    Calls Tryz.prog 131 #[.int .i64 19, .int .i64 k, .int .i64 s, .slice (some ⟨b, off, none⟩) 2 cap] w fun e w' => e = .returned (.tuple #[.int .i64 (ex 19 k s x y 0).1, .int .i64 (ex 19 k s x y 0).2]) ∧ w' = w := by
  have CH := hide (fun w => rchosen_any 19 k s x y 0 w rfl)
  go_enter Tryz.func131, Tryz.ntmps131
  go_wp2_with fail
  refine (CH.out _).mono ?_
  rintro e w' ⟨rfl, rfl⟩
  go_wp2_with fail
  go_ret2
  exact ⟨rfl, rfl⟩

set_option maxRecDepth 100000 in
set_option maxHeartbeats 1000000 in
theorem pl_20 (k s x y : Int) (b off cap : Nat) (w : World) (hcap : 2 ≤ cap)  
    (c0 : w.cell? ⟨b, off, none⟩ = some (.int .i64 x)) (c1 : w.cell? ⟨b, off + 1, none⟩ = some (.int .i64 y)) :
    Calls Tryz.prog 131 #[.int .i64 20, .int .i64 k, .int .i64 s, .slice (some ⟨b, off, none⟩) 2 cap] w fun e w' => e = .returned (.tuple #[.int .i64 (ex 20 k s x y 0).1, .int .i64 (ex 20 k s x y 0).2]) ∧ w' = w := by
  have CH := hide (fun w => rchosen_any 20 k s x y 0 w rfl)
  go_enter Tryz.func131, Tryz.ntmps131
  go_wp2_with fail
  refine (CH.out _).mono ?_
  rintro e w' ⟨rfl, rfl⟩
  go_wp2_with fail
  go_ret2
  exact ⟨rfl, rfl⟩

set_option maxRecDepth 100000 in
set_option maxHeartbeats 1000000 in
theorem pl_21 (k s x y : Int) (b off cap : Nat) (w : World) (hcap : 2 ≤ cap)  
    (c0 : w.cell? ⟨b, off, none⟩ = some (.int .i64 x)) (c1 : w.cell? ⟨b, off + 1, none⟩ = some (.int .i64 y)) :
    Calls Tryz.prog 131 #[.int .i64 21, .int .i64 k, .int .i64 s, .slice (some ⟨b, off, none⟩) 2 cap] w fun e w' => e = .returned (.tuple #[.int .i64 (ex 21 k s x y 0).1, .int .i64 (ex 21 k s x y 0).2]) ∧ w' = w := by
  have CH := hide (fun w => rchosen_any 21 k s x y 0 w rfl)
  go_enter Tryz.func131, Tryz.ntmps131
  go_wp2_with fail
  refine (CH.out _).mono ?_
  rintro e w' ⟨rfl, rfl⟩
  go_wp2_with fail
  go_ret2
  exact ⟨rfl, rfl⟩

set_option maxRecDepth 100000 in
set_option maxHeartbeats 1000000 in
theorem pl_22 (k s x y : Int) (b off cap : Nat) (w : World) (hcap : 2 ≤ cap)  
    (c0 : w.cell? ⟨b, off, none⟩ = some (.int .i64 x)) (c1 : w.cell? ⟨b, off + 1, none⟩ = some (.int .i64 y)) :
    Calls Tryz.prog 131 #[.int .i64 22, .int .i64 k, .int .i64 s, .slice (some ⟨b, off, none⟩) 2 cap] w fun e w' => e = .returned (.tuple #[.int .i64 (ex 22 k s x y 0).1, .int .i64 (ex 22 k s x y 0).2]) ∧ w' = w := by
  have CH := hide (fun w => rchosen_any 22 k s x y 0 w rfl)
  go_enter Tryz.func131, Tryz.ntmps131
  go_wp2_with fail
  refine (CH.out _).mono ?_
  rintro e w' ⟨rfl, rfl⟩
  go_wp2_with fail
  go_ret2
  exact ⟨rfl, rfl⟩

set_option maxRecDepth 100000 in
set_option maxHeartbeats 1000000 in
theorem pl_23 (k s x y : Int) (b off cap : Nat) (w : World) (hcap : 2 ≤ cap)  
    (c0 : w.cell? ⟨b, off, none⟩ = some (.int .i64 x)) (c1 : w.cell? ⟨b, off + 1, none⟩ = some (.int .i64 y)) :
    Calls Tryz.prog 131 #[.int .i64 23, .int .i64 k, .int .i64 s, .slice (some ⟨b, off, none⟩) 2 cap] w fun e w' => e = .returned (.tuple #[.int .i64 (ex 23 k s x y 0).1, .int .i64 (ex 23 k s x y 0).2]) ∧ w' = w := by
  have CH := hide (fun w => rchosen_any 23 k s x y 0 w rfl)
  go_enter Tryz.func131, Tryz.ntmps131
  go_wp2_with fail
  refine (CH.out _).mono ?_
  rintro e w' ⟨rfl, rfl⟩
  go_wp2_with fail
  go_ret2
  exact ⟨rfl, rfl⟩

set_option maxRecDepth 100000 in
set_option maxHeartbeats 1000000 in
theorem pl_24 (k s x y : Int) (b off cap : Nat) (w : World) (hcap : 2 ≤ cap)  
    (c0 : w.cell? ⟨b, off, none⟩ = some (.int .i64 x)) (c1 : w.cell? ⟨b, off + 1, none⟩ = some (.int .i64 y)) :
    Calls Tryz.prog 131 #[.int .i64 24, .int .i64 k, .int .i64 s, .slice (some ⟨b, off, none⟩) 2 cap] w fun e w' => e = .returned (.tuple #[.int .i64 (ex 24 k s x y 0).1, .int .i64 (ex 24 k s x y 0).2]) ∧ w' = w := by
  have CH := hide (fun w => rchosen_any 24 k s x y 0 w rfl)
  go_enter Tryz.func131, Tryz.ntmps131
  go_wp2_with fail
  refine (CH.out _).mono ?_
  rintro e w' ⟨rfl, rfl⟩
  go_wp2_with fail
  go_ret2
  exact ⟨rfl, rfl⟩

set_option maxRecDepth 100000 in
set_option maxHeartbeats 1000000 in
theorem pl_25 (k s x y : Int) (b off cap : Nat) (w : World) (hcap : 2 ≤ cap)  
    (c0 : w.cell? ⟨b, off, none⟩ = some (.int .i64 x)) (c1 : w.cell? ⟨b, off + 1, none⟩ = some (.int .i64 y)) :
    Calls Tryz.prog 131 #[.int .i64 25, .int .i64 k, .int .i64 s, .slice (some ⟨b, off, none⟩) 2 cap] w fun e w' => e = .returned (.tuple #[.int .i64 (ex 25 k s x y 0).1, .int .i64 (ex 25 k s x y 0).2]) ∧ w' = w := by
  have CH := hide (fun w => rchosen_any 25 k s x y 0 w rfl)
  go_enter Tryz.func131, Tryz.ntmps131
  go_wp2_with fail
  refine (CH.out _).mono ?_
  rintro e w' ⟨rfl, rfl⟩
  go_wp2_with fail
  go_ret2
  exact ⟨rfl, rfl⟩

set_option maxRecDepth 100000 in
set_option maxHeartbeats 1000000 in
theorem pl_26 (k s x y z : Int) (b off cap : Nat) (w : World) (hcap : 3 ≤ cap)  
    (c0 : w.cell? ⟨b, off, none⟩ = some (.int .i64 x)) (c1 : w.cell? ⟨b, off + 1, none⟩ = some (.int .i64 y)) (c2 : w.cell? ⟨b, off + 2, none⟩ = some (.int .i64 z)) :
    Calls Tryz.prog 131 #[.int .i64 26, .int .i64 k, .int .i64 s, .slice (some ⟨b, off, none⟩) 3 cap] w fun e w' => e = .returned (.tuple #[.int .i64 (ex 26 k s x y z).1, .int .i64 (ex 26 k s x y z).2]) ∧ w' = w := by
  have CH := hide (fun w => rchosen_any 26 k s x y z w rfl)
  go_enter Tryz.func131, Tryz.ntmps131
  go_wp2_with fail
  refine (CH.out _).mono ?_
  rintro e w' ⟨rfl, rfl⟩
  go_wp2_with fail
  go_ret2
  exact ⟨rfl, rfl⟩

set_option maxRecDepth 100000 in
set_option maxHeartbeats 1000000 in
theorem pl_27 (k s x y z : Int) (b off cap : Nat) (w : World) (hcap : 3 ≤ cap)  
    (c0 : w.cell? ⟨b, off, none⟩ = some (.int .i64 x)) (c1 : w.cell? ⟨b, off + 1, none⟩ = some (.int .i64 y)) (c2 : w.cell? ⟨b, off + 2, none⟩ = some (.int .i64 z)) :
    Calls Tryz.prog 131 #[.int .i64 27, .int .i64 k, .int .i64 s, .slice (some ⟨b, off, none⟩) 3 cap] w fun e w' => e = .returned (.tuple #[.int .i64 (ex 27 k s x y z).1, .int .i64 (ex 27 k s x y z).2]) ∧ w' = w := by
  have CH := hide (fun w => rchosen_any 27 k s x y z w rfl)
  go_enter Tryz.func131, Tryz.ntmps131
  go_wp2_with fail
  refine (CH.out _).mono ?_
  rintro e w' ⟨rfl, rfl⟩
  go_wp2_with fail
  go_ret2
  exact ⟨rfl, rfl⟩

set_option maxRecDepth 100000 in
set_option maxHeartbeats 1000000 in
theorem pl_28 (k s x y z : Int) (b off cap : Nat) (w : World) (hcap : 3 ≤ cap)  
    (c0 : w.cell? ⟨b, off, none⟩ = some (.int .i64 x)) (c1 : w.cell? ⟨b, off + 1, none⟩ = some (.int .i64 y)) (c2 : w.cell? ⟨b, off + 2, none⟩ = some (.int .i64 z)) :
    Calls Tryz.prog 131 #[.int .i64 28, .int .i64 k, .int .i64 s, .slice (some ⟨b, off, none⟩) 3 cap] w fun e w' => e = .returned (.tuple #[.int .i64 (ex 28 k s x y z).1, .int .i64 (ex 28 k s x y z).2]) ∧ w' = w := by
  have CH := hide (fun w => rchosen_any 28 k s x y z w rfl)
  go_enter Tryz.func131, Tryz.ntmps131
  go_wp2_with fail
  refine (CH.out _).mono ?_
  rintro e w' ⟨rfl, rfl⟩
  go_wp2_with fail
  go_ret2
  exact ⟨rfl, rfl⟩

end Go.Proofs.YtihbhbeaihdgnaaGreat.Spn
