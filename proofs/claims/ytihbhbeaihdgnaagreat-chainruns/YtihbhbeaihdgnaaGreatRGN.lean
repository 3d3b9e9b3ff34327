/-
  The document's spans and the program's, on whole numbers: the same once they are held against the words of 32 bits.
-/
import Derived.Test.YtihbhbeaihdgnaaGreatRGM
import Derived.Test.YtihbhbeaihdgnaaGreatRGF
namespace Go.Proofs.YtihbhbeaihdgnaaGreat.Spn
open Go.RowKit Go.IntWalk
set_option linter.unusedVariables false

theorem fin_bad (Z : Int × Int) (e : Int) (he : e ≠ 0) : finZ (Z, e) = ((0, 0), e) := by simp [finZ, he]
theorem fin_no {x y : Int} (h : ¬ whB x y = true) : finZ ((x, y), 0) = ((0, 0), 13) := by simp [finZ, h]
theorem fin_no' {x y : Int} (h : ¬ (x ≤ y ∧ -2147483648 ≤ x ∧ x ≤ 2147483647 ∧ -2147483648 ≤ y ∧ y ≤ 2147483647)) : finZ ((x, y), 0) = ((0, 0), 13) := fin_no fun hh => h (whB_iff.1 hh)

/-- Four corners. -/
theorem corn_fin {f : Int → Int → Int × Int} {a b c d p q r t : Int} (h0 : f a c = if wd p = true then (p, 0) else (0, 13)) (h1 : f a d = if wd q = true then (q, 0) else (0, 13))
    (h2 : f b c = if wd r = true then (r, 0) else (0, 13)) (h3 : f b d = if wd t = true then (t, 0) else (0, 13)) :
    finZ ((min (min (min p q) r) t, max (max (max p q) r) t), 0) = finZ (cornZ f a b c d) := by
  have e0 : cv f a b c d 0 = f a c := rfl
  have e1 : cv f a b c d 1 = f a d := rfl
  have e2 : cv f a b c d 2 = f b c := rfl
  have e3 : cv f a b c d 3 = f b d := rfl
  by_cases w0 : wd p = true
  · rw [if_pos w0] at h0
    by_cases w1 : wd q = true
    · rw [if_pos w1] at h1
      by_cases w2 : wd r = true
      · rw [if_pos w2] at h2
        by_cases w3 : wd t = true
        · rw [if_pos w3] at h3
          rw [cornZ_mk (by rw [h0]) (by rw [h1]) (by rw [h2]) (by rw [h3]), h0, h1, h2, h3]
          rw [wd_iff] at w0 w1 w2 w3
          have g1 : min (min (min p q) r) t = min (min (min (min 9223372036854775807 p) q) r) t := by omega
          have g2 : max (max (max p q) r) t = max (max (max (max (-9223372036854775808) p) q) r) t := by omega
          rw [g1, g2]
        · rw [if_neg w3] at h3
          unfold cornZ
          rw [e0, e1, e2, e3, h0, h1, h2, h3, if_neg (by simp), if_neg (by simp), if_neg (by simp), if_pos (by simp)]
          rw [wd_iff] at w3
          exact (fin_no' (by omega)).trans (fin_bad _ 13 (by simp)).symm
      · rw [if_neg w2] at h2
        unfold cornZ
        rw [e0, e1, e2, h0, h1, h2, if_neg (by simp), if_neg (by simp), if_pos (by simp)]
        rw [wd_iff] at w2
        exact (fin_no' (by omega)).trans (fin_bad _ 13 (by simp)).symm
    · rw [if_neg w1] at h1
      unfold cornZ
      rw [e0, e1, h0, h1, if_neg (by simp), if_pos (by simp)]
      rw [wd_iff] at w1
      exact (fin_no' (by omega)).trans (fin_bad _ 13 (by simp)).symm
  · rw [if_neg w0] at h0
    unfold cornZ
    rw [e0, h0, if_pos (by simp)]
    rw [wd_iff] at w0
    exact (fin_no' (by omega)).trans (fin_bad _ 13 (by simp)).symm

/-- Both ends. -/
theorem ends_fin {f : List Int → Int × Int} {L : List (Int × Int)} {p q : Int} (h0 : f (fsts L) = if wd p = true then (p, 0) else (0, 13)) (h1 : f (snds L) = if wd q = true then (q, 0) else (0, 13)) :
    finZ ((p, q), 0) = finZ (endsZ f L) := by
  unfold endsZ
  rw [h0, h1]
  by_cases w0 : wd p = true
  · rw [if_pos w0, if_neg (by simp)]
    by_cases w1 : wd q = true
    · rw [if_pos w1]
    · rw [if_neg w1]
      rw [wd_iff] at w1
      exact (fin_no' (by omega)).trans (fin_bad _ 13 (by simp)).symm
  · rw [if_neg w0, if_pos (by simp)]
    rw [wd_iff] at w0
    exact (fin_no' (by omega)).trans (fin_bad _ 13 (by simp)).symm

theorem fnE_if (v : Int) : fnE (v, 0) = if wd v = true then (v, 0) else (0, 13) := by simp [fnE]
theorem tr_wd (b : Bool) : wd (tr b) = true := by cases b <;> rfl
theorem wd_of {x : Int} (h : W32 x) : wd x = true := wd_iff.2 h

theorem v10 {k s x y : Int} (hx : W32 x) (hy : W32 y) : valZ 10 k s [x, y] = if wd (x * y) = true then (x * y, 0) else (0, 13) := by
  rw [val2 rfl rfl hx hy]; exact fnE_if (x * y)
theorem v11 {k s x y : Int} (hx : W32 x) (hy : W32 y) (h : y ≠ 0) : valZ 11 k s [x, y] = if wd (x.tdiv y) = true then (x.tdiv y, 0) else (0, 13) := by
  rw [val2 rfl rfl hx hy, show ex 11 k s x y 0 = (x.tdiv y, 0) by simp [ex, h]]; exact fnE_if _
theorem v13 {k s x y : Int} (hx : W32 x) (hy : W32 y) (h : 0 ≤ y ∧ y ≤ 31) : valZ 13 k s [x, y] = if wd (x * 2 ^ y.toNat) = true then (x * 2 ^ y.toNat, 0) else (0, 13) := by
  rw [val2 rfl rfl hx hy, show ex 13 k s x y 0 = (x * 2 ^ y.toNat, 0) by simp [ex, inB_t h.1 h.2]]; exact fnE_if _
theorem v14 {k s x y : Int} (hx : W32 x) (hy : W32 y) (h : 0 ≤ y ∧ y ≤ 31) : valZ 14 k s [x, y] = if wd (x / 2 ^ y.toNat) = true then (x / 2 ^ y.toNat, 0) else (0, 13) := by
  rw [val2 rfl rfl hx hy, show ex 14 k s x y 0 = (x / 2 ^ y.toNat, 0) by simp [ex, inB_t h.1 h.2]]; exact fnE_if _
theorem v29 {k s x : Int} (hc : cons 29 k s = true) (hx : W32 x) : valZ 29 k s [x] = if wd (x * 2 ^ k.toNat) = true then (x * 2 ^ k.toNat, 0) else (0, 13) := by
  rw [val1 rfl hc hx]; exact fnE_if _
theorem v30 {k s x : Int} (hc : cons 30 k s = true) (hx : W32 x) : valZ 30 k s [x] = if wd (x / 2 ^ k.toNat) = true then (x / 2 ^ k.toNat, 0) else (0, 13) := by
  rw [val1 rfl hc hx]; exact fnE_if _
theorem v33 {k s x : Int} (hc : cons 33 k s = true) (hx : W32 x) (h : max x (-x) * k ≤ 4611686018427387904) : valZ 33 k s [x] = if wd (x * k / 2 ^ s.toNat) = true then (x * k / 2 ^ s.toNat, 0) else (0, 13) := by
  rw [val1 rfl hc hx, ex33' h]; exact fnE_if _
theorem v33b {k s x : Int} (hc : cons 33 k s = true) (hx : W32 x) (h : 4611686018427387904 < max x (-x) * k) : valZ 33 k s [x] = (0, 13) := by
  rw [val1 rfl hc hx]
  have e : ex 33 k s x 0 0 = if 4611686018427387904 < max x (-x) * k then (0, 13) else (x * k / 2 ^ s.toNat, 0) := rfl
  rw [e, if_pos h]; rfl
theorem ifwd {v : Int} (h : wd v = true) : (v, (0 : Int)) = if wd v = true then (v, 0) else (0, 13) := by rw [if_pos h]
theorem v7 {k s x : Int} (hx : W32 x) : valZ 7 k s [x] = (tr (decide (0 < x)) - tr (decide (x < 0)), 0) := by
  rw [val1 rfl rfl hx]
  refine fnE_mk (E := (tr (decide (0 < x)) - tr (decide (x < 0)), 0)) rfl (wd_iff.2 ?_)
  have t1 := trd (0 < x)
  have t2 := trd (x < 0)
  show _ ≤ tr _ - tr _ ∧ tr _ - tr _ ≤ _
  omega
theorem v24 {k s x y : Int} (hx : W32 x) (hy : W32 y) : valZ 24 k s [x, y] = (min x y, 0) := by
  rw [val2 rfl rfl hx hy]
  exact fnE_mk (E := (min x y, 0)) rfl (wd_iff.2 (show _ ≤ min x y ∧ min x y ≤ _ by omega))
theorem v25 {k s x y : Int} (hx : W32 x) (hy : W32 y) : valZ 25 k s [x, y] = (max x y, 0) := by
  rw [val2 rfl rfl hx hy]
  exact fnE_mk (E := (max x y, 0)) rfl (wd_iff.2 (show _ ≤ max x y ∧ max x y ≤ _ by omega))
theorem v26 {k s x y z : Int} (hx : W32 x) (hy : W32 y) (hz : W32 z) : valZ 26 k s [x, y, z] = (min z (max x y), 0) := by
  rw [val3 rfl rfl hx hy hz]
  exact fnE_mk (E := (min z (max x y), 0)) rfl (wd_iff.2 (show _ ≤ min z (max x y) ∧ min z (max x y) ≤ _ by omega))
theorem v27 {k s x y z : Int} (hx : W32 x) (hy : W32 y) (hz : W32 z) : valZ 27 k s [x, y, z] = (max (min x y) (min (max x y) z), 0) := by
  rw [val3 rfl rfl hx hy hz]
  exact fnE_mk (E := (max (min x y) (min (max x y) z), 0)) rfl (wd_iff.2 (show _ ≤ max (min x y) (min (max x y) z) ∧ max (min x y) (min (max x y) z) ≤ _ by omega))
theorem v18 {k s x y : Int} (hx : W32 x) (hy : W32 y) : valZ 18 k s [x, y] = (tr (decide (x < y)), 0) := by
  rw [val2 rfl rfl hx hy]; exact fnE_mk (E := (tr (decide (x < y)), 0)) rfl (tr_wd _)
theorem v19 {k s x y : Int} (hx : W32 x) (hy : W32 y) : valZ 19 k s [x, y] = (tr (decide (x ≤ y)), 0) := by
  rw [val2 rfl rfl hx hy]; exact fnE_mk (E := (tr (decide (x ≤ y)), 0)) rfl (tr_wd _)
theorem v20 {k s x y : Int} (hx : W32 x) (hy : W32 y) : valZ 20 k s [x, y] = (tr (decide (y < x)), 0) := by
  rw [val2 rfl rfl hx hy]; exact fnE_mk (E := (tr (decide (y < x)), 0)) rfl (tr_wd _)
theorem v21 {k s x y : Int} (hx : W32 x) (hy : W32 y) : valZ 21 k s [x, y] = (tr (decide (y ≤ x)), 0) := by
  rw [val2 rfl rfl hx hy]; exact fnE_mk (E := (tr (decide (y ≤ x)), 0)) rfl (tr_wd _)

theorem cmp_fin {op k s a b c d : Int} (hop : op = 18 ∨ op = 19 ∨ op = 20 ∨ op = 21) (ha : W32 a) (hb : W32 b) (hc : W32 c) (hd : W32 d) (hab : a ≤ b) (hcd : c ≤ d) :
    finZ ((min (valZ op 0 0 [a, d]).1 (valZ op 0 0 [b, c]).1, max (valZ op 0 0 [a, d]).1 (valZ op 0 0 [b, c]).1), 0) = finZ (cornZ (fun u v => valZ op k s [u, v]) a b c d) := by
  have key : ∀ p q r t : Int, min q r ≤ p → p ≤ max q r → min q r ≤ t → t ≤ max q r → min q r = min (min (min p q) r) t ∧ max q r = max (max (max p q) r) t := by intro p q r t; omega
  rcases hop with rfl | rfl | rfl | rfl
  · have t1 := trd (a < c)
    have t2 := trd (a < d)
    have t3 := trd (b < c)
    have t4 := trd (b < d)
    rw [← corn_fin ((v18 ha hc).trans (ifwd (tr_wd _))) ((v18 ha hd).trans (ifwd (tr_wd _))) ((v18 hb hc).trans (ifwd (tr_wd _))) ((v18 hb hd).trans (ifwd (tr_wd _))), v18 ha hd, v18 hb hc]
    obtain ⟨e1, e2⟩ := key (tr (decide (a < c))) (tr (decide (a < d))) (tr (decide (b < c))) (tr (decide (b < d))) (by omega) (by omega) (by omega) (by omega)
    rw [← e1, ← e2]
  · have t1 := trd (a ≤ c)
    have t2 := trd (a ≤ d)
    have t3 := trd (b ≤ c)
    have t4 := trd (b ≤ d)
    rw [← corn_fin ((v19 ha hc).trans (ifwd (tr_wd _))) ((v19 ha hd).trans (ifwd (tr_wd _))) ((v19 hb hc).trans (ifwd (tr_wd _))) ((v19 hb hd).trans (ifwd (tr_wd _))), v19 ha hd, v19 hb hc]
    obtain ⟨e1, e2⟩ := key (tr (decide (a ≤ c))) (tr (decide (a ≤ d))) (tr (decide (b ≤ c))) (tr (decide (b ≤ d))) (by omega) (by omega) (by omega) (by omega)
    rw [← e1, ← e2]
  · have t1 := trd (c < a)
    have t2 := trd (d < a)
    have t3 := trd (c < b)
    have t4 := trd (d < b)
    rw [← corn_fin ((v20 ha hc).trans (ifwd (tr_wd _))) ((v20 ha hd).trans (ifwd (tr_wd _))) ((v20 hb hc).trans (ifwd (tr_wd _))) ((v20 hb hd).trans (ifwd (tr_wd _))), v20 ha hd, v20 hb hc]
    obtain ⟨e1, e2⟩ := key (tr (decide (c < a))) (tr (decide (d < a))) (tr (decide (c < b))) (tr (decide (d < b))) (by omega) (by omega) (by omega) (by omega)
    rw [← e1, ← e2]
  · have t1 := trd (c ≤ a)
    have t2 := trd (d ≤ a)
    have t3 := trd (c ≤ b)
    have t4 := trd (d ≤ b)
    rw [← corn_fin ((v21 ha hc).trans (ifwd (tr_wd _))) ((v21 ha hd).trans (ifwd (tr_wd _))) ((v21 hb hc).trans (ifwd (tr_wd _))) ((v21 hb hd).trans (ifwd (tr_wd _))), v21 ha hd, v21 hb hc]
    obtain ⟨e1, e2⟩ := key (tr (decide (c ≤ a))) (tr (decide (d ≤ a))) (tr (decide (c ≤ b))) (tr (decide (d ≤ b))) (by omega) (by omega) (by omega) (by omega)
    rw [← e1, ← e2]

/-- A shift by a count that isn't one. -/
theorem sh_fin {op k s a b c d : Int} (hop : op = 13 ∨ op = 14) (ha : W32 a) (hb : W32 b) (hc : W32 c) (hd : W32 d) (hcd : c ≤ d) (h : c < 0 ∨ 31 < d) :
    finZ ((0, 0), 13) = finZ (cornZ (fun u v => valZ op k s [u, v]) a b c d) := by
  have ho : ar op = 2 := by rcases hop with rfl | rfl <;> rfl
  have hco : cons op k s = true := by rcases hop with rfl | rfl <;> rfl
  obtain ⟨⟨lo, hi⟩, e, hZ⟩ : ∃ Z e, cornZ (fun u v => valZ op k s [u, v]) a b c d = (Z, e) := ⟨_, _, rfl⟩
  have he : e = 0 ∨ e = 13 := by
    have key : ∀ x y, W32 x → W32 y → (valZ op k s [x, y]).2 = 0 ∨ (valZ op k s [x, y]).2 = 13 := by
      intro x y hx hy
      rw [val2 ho hco hx hy]
      have h1 : (ex op k s x y 0).2 = 0 ∨ (ex op k s x y 0).2 = 13 := by
        cases hi : inB y 0 31
        · rcases hop with rfl | rfl <;> simp [ex, hi]
        · rcases hop with rfl | rfl <;> simp [ex, hi]
      unfold fnE
      split
      · split <;> simp
      · rcases h1 with h1 | h1
        · contradiction
        · right; exact h1
    have e0 : cv (fun u v => valZ op k s [u, v]) a b c d 0 = valZ op k s [a, c] := rfl
    have e1 : cv (fun u v => valZ op k s [u, v]) a b c d 1 = valZ op k s [a, d] := rfl
    have e2 : cv (fun u v => valZ op k s [u, v]) a b c d 2 = valZ op k s [b, c] := rfl
    have e3 : cv (fun u v => valZ op k s [u, v]) a b c d 3 = valZ op k s [b, d] := rfl
    unfold cornZ at hZ
    rw [e0, e1, e2, e3] at hZ
    have k0 := key a c ha hc
    have k1 := key a d ha hd
    have k2 := key b c hb hc
    have k3 := key b d hb hd
    split at hZ
    · simp only [Prod.mk.injEq] at hZ; omega
    · split at hZ
      · simp only [Prod.mk.injEq] at hZ; omega
      · split at hZ
        · simp only [Prod.mk.injEq] at hZ; omega
        · split at hZ
          · simp only [Prod.mk.injEq] at hZ; omega
          · simp only [Prod.mk.injEq] at hZ; omega
  rcases he with rfl | rfl
  · have := corn_count hop ha hb hc hd hZ
    omega
  · rw [hZ, fin_bad _ _ (by simp), fin_bad _ _ (by simp)]

/-- OpMulS. -/
theorem muls_big {k s a b M : Int} (hc : cons 33 k s = true) (ha : W32 a) (hb : W32 b) (hM : max (max (max a b) (-a)) (-b) = M) (h : 0 < M ∧ 4611686018427387904 / M < k) :
    finZ ((0, 0), 13) = finZ (endsZ (fun xs => valZ 33 k s xs) [(a, b)]) := by
  have h1 := (div_test (m := k) (k := M) (by omega)).1 h.2
  rw [Int.mul_comm] at h1
  unfold endsZ
  show finZ ((0, 0), 13) = finZ (if (valZ 33 k s [a]).2 ≠ 0 then ((0, 0), (valZ 33 k s [a]).2) else (((valZ 33 k s [a]).1, (valZ 33 k s [b]).1), (valZ 33 k s [b]).2))
  rcases (show M = max a (-a) ∨ M = max b (-b) by omega) with e | e
  · rw [v33b hc ha (by rw [← e]; exact h1), if_pos (by simp)]
  · rw [v33b hc hb (by rw [← e]; exact h1)]
    rcases Int.lt_or_le 4611686018427387904 (max a (-a) * k) with h2 | h2
    · rw [v33b hc ha h2, if_pos (by simp)]
    · rw [v33 hc ha h2]
      split
      · rw [if_neg (by simp)]
        exact (fin_bad _ 13 (by simp)).trans (fin_bad _ 13 (by simp)).symm
      · rw [if_pos (by simp)]
theorem muls_small {k a b M : Int} (hk : 1 ≤ k) (hM : max (max (max a b) (-a)) (-b) = M) (h : ¬ (0 < M ∧ 4611686018427387904 / M < k)) : M * k ≤ 4611686018427387904 ∧ max a (-a) * k ≤ 4611686018427387904 ∧ max b (-b) * k ≤ 4611686018427387904 := by
  have h1 : M * k ≤ 4611686018427387904 := by
    rcases (show M = 0 ∨ 1 ≤ M by omega) with h0 | h0
    · rw [h0]; omega
    · have h2 : ¬ 4611686018427387904 / M < k := fun hh => h ⟨by omega, hh⟩
      have h3 : ¬ 4611686018427387904 < k * M := fun hh => h2 ((div_test (m := k) (k := M) h0).2 hh)
      rw [Int.mul_comm] at h3
      omega
  refine ⟨h1, ?_, ?_⟩
  · exact Int.le_trans (Int.mul_le_mul_of_nonneg_right (show max a (-a) ≤ M by omega) (by omega)) h1
  · exact Int.le_trans (Int.mul_le_mul_of_nonneg_right (show max b (-b) ≤ M by omega) (by omega)) h1
theorem muls_bd {k a : Int} (hk : 1 ≤ k) (h : max a (-a) * k ≤ 4611686018427387904) : -4611686018427387904 ≤ a * k ∧ a * k ≤ 4611686018427387904 := by
  have h1 := Int.mul_le_mul_of_nonneg_right (show a ≤ max a (-a) by omega) (show 0 ≤ k by omega)
  have h2 := Int.mul_le_mul_of_nonneg_right (show -a ≤ max a (-a) by omega) (show 0 ≤ k by omega)
  rw [Int.neg_mul] at h2
  omega

theorem one6 {a b : Int} (hab : a ≤ b) : (if hasB a b 0 = true then (0, max (max (max a b) (-a)) (-b)) else if 0 < a then (a, b) else (-b, -a)) = oneZ 6 a b := by
  have e6 : oneZ 6 a b = if 0 ≤ a then (a, b) else if b < 0 then (-b, -a) else (0, max (-a) b) := by unfold oneZ; rw [if_neg (by decide)]
  rw [e6]
  by_cases h : hasB a b 0 = true
  · rw [if_pos h]
    have := hasB_iff.1 h
    by_cases h1 : 0 ≤ a
    · rw [if_pos h1]
      have : a = 0 := by omega
      subst this
      exact congrArg (Prod.mk 0) (by omega)
    · rw [if_neg h1, if_neg (by omega)]
      exact congrArg (Prod.mk 0) (by omega)
  · rw [if_neg h]
    have h' : ¬ (a ≤ 0 ∧ 0 ≤ b) := fun hh => h (hasB_iff.2 hh)
    by_cases h1 : 0 < a
    · rw [if_pos h1, if_pos (by omega)]
    · rw [if_neg h1, if_neg (by omega), if_pos (by omega)]
theorem sel28 {a b c d e f : Int} (hcd : c ≤ d) (hef : e ≤ f) : (if hasB a b 0 = true then (if a = 0 ∧ b = 0 then (e, f) else (min (min (min c d) e) f, max (max (max c d) e) f)) else (c, d)) = selZ a b c d e f := by
  unfold selZ
  rw [show min (min (min c d) e) f = min c e by omega, show max (max (max c d) e) f = max d f by omega]

theorem two22 (a b c d : Int) : twoZ 22 a b c d = eqZ a b c d ∧ twoZ 23 a b c d = (1 - (eqZ a b c d).2, 1 - (eqZ a b c d).1) ∧ twoZ 15 a b c d = bothZ a b c d ∧ twoZ 16 a b c d = eithZ 16 a b c d ∧ twoZ 17 a b c d = eithZ 17 a b c d ∧ twoZ 8 a b c d = (a + c, b + d) ∧ twoZ 9 a b c d = (a - d, b - c) := by
  simp [twoZ]

end Go.Proofs.YtihbhbeaihdgnaaGreat.Spn

/-
  The document's own small functions: size, truth, divide, Power, Floor, chosen.
-/
namespace Go.Proofs.YtihbhbeaihdgnaaGreat.Spn
open Go.RowKit Go.IntWalk
set_option linter.unusedVariables false

theorem rsize_any (a : Int) (w : World) (ha : -4611686018427387904 ≤ a ∧ a ≤ 4611686018427387904) :
    Calls Tryz.prog 170 #[.int .i64 a] w fun e w' => e = .returned (.int .i64 (max a (-a))) ∧ w' = w := by
  go_enter Tryz.func170, Tryz.ntmps170
  go_wp2
  all_goals go_ret
  all_goals exact ⟨ret_int (by omega), rfl⟩

theorem rtruth_any (b : Bool) (w : World) :
    Calls Tryz.prog 171 #[.bool b] w fun e w' => e = .returned (.int .i64 (tr b)) ∧ w' = w := by
  cases b <;>
  · go_enter Tryz.func171, Tryz.ntmps171
    go_wp2
    go_ret
    exact ⟨rfl, rfl⟩

theorem rdivide_any (a b : Int) (w : World) (ha : -2147483648 ≤ a ∧ a ≤ 2147483647) (hb : -2147483648 ≤ b ∧ b ≤ 2147483647) (h0 : b ≠ 0) :
    Calls Tryz.prog 172 #[.int .i64 a, .int .i64 b] w fun e w' => e = .returned (.int .i64 (a.tdiv b)) ∧ w' = w := by
  have sa := fun w => rsize_any a w (by omega)
  have sb := fun w => rsize_any b w (by omega)
  have bd := tdiv_bd a b ha
  rcases (show a < 0 ∨ 0 ≤ a by omega) with ga | ga <;> rcases (show b < 0 ∨ 0 ≤ b by omega) with gb | gb
  · have e : a.tdiv b = -a / -b := by
      rw [← Int.neg_tdiv_neg, Int.tdiv_eq_ediv_of_nonneg (by omega)]
    rw [show max a (-a) = -a by omega] at sa
    rw [show max b (-b) = -b by omega] at sb
    rw [e] at bd ⊢
    clear e
    generalize hA : -a = A at *
    generalize hB : -b = B at *
    have hA' : 0 ≤ A ∧ A ≤ 2147483648 := by omega
    have hB' : 1 ≤ B := by omega
    clear hA hB
    have da : decide (a < 0) = true := by simp; omega
    have db : decide (b < 0) = true := by simp; omega
    go_enter Tryz.func172, Tryz.ntmps172
    go_wp2_with fail
    refine (sa _).mono ?_
    rintro e w' ⟨rfl, rfl⟩
    go_wp2_with fail
    refine (sb _).mono ?_
    rintro e w' ⟨rfl, rfl⟩
    go_wp2_with fail
    go_ret
    exact ⟨rfl, rfl⟩
  · have e : a.tdiv b = -(-a / b) := by
      rw [← Int.tdiv_eq_ediv_of_nonneg (by omega), Int.neg_tdiv, Int.neg_neg]
    rw [show max a (-a) = -a by omega] at sa
    rw [show max b (-b) = b by omega] at sb
    rw [e] at bd ⊢
    clear e
    generalize hA : -a = A at *
    have hA' : 0 ≤ A ∧ A ≤ 2147483648 := by omega
    have hB' : 1 ≤ b := by omega
    clear hA
    have da : decide (a < 0) = true := by simp; omega
    have db : decide (b < 0) = false := by simp; omega
    go_enter Tryz.func172, Tryz.ntmps172
    go_wp2_with fail
    refine (sa _).mono ?_
    rintro e w' ⟨rfl, rfl⟩
    go_wp2_with fail
    refine (sb _).mono ?_
    rintro e w' ⟨rfl, rfl⟩
    go_wp2_with fail
    go_ret
    exact ⟨rfl, rfl⟩
  · have e : a.tdiv b = -(a / -b) := by
      rw [← Int.tdiv_eq_ediv_of_nonneg ga, Int.tdiv_neg, Int.neg_neg]
    rw [show max a (-a) = a by omega] at sa
    rw [show max b (-b) = -b by omega] at sb
    rw [e] at bd ⊢
    clear e
    generalize hB : -b = B at *
    have hB' : 1 ≤ B := by omega
    clear hB
    have da : decide (a < 0) = false := by simp; omega
    have db : decide (b < 0) = true := by simp; omega
    go_enter Tryz.func172, Tryz.ntmps172
    go_wp2_with fail
    refine (sa _).mono ?_
    rintro e w' ⟨rfl, rfl⟩
    go_wp2_with fail
    refine (sb _).mono ?_
    rintro e w' ⟨rfl, rfl⟩
    go_wp2_with fail
    go_ret
    exact ⟨rfl, rfl⟩
  · have e : a.tdiv b = a / b := Int.tdiv_eq_ediv_of_nonneg ga
    rw [show max a (-a) = a by omega] at sa
    rw [show max b (-b) = b by omega] at sb
    rw [e] at bd ⊢
    clear e
    have hB' : 1 ≤ b := by omega
    have da : decide (a < 0) = false := by simp; omega
    have db : decide (b < 0) = false := by simp; omega
    go_enter Tryz.func172, Tryz.ntmps172
    go_wp2_with fail
    refine (sa _).mono ?_
    rintro e w' ⟨rfl, rfl⟩
    go_wp2_with fail
    refine (sb _).mono ?_
    rintro e w' ⟨rfl, rfl⟩
    go_wp2_with fail
    go_ret
    exact ⟨rfl, rfl⟩

theorem rpower_any (n : Int) (w : World) (hn : 0 ≤ n ∧ n ≤ 62) :
    Calls Tryz.prog 97 #[.int .i64 n] w fun e w' => e = .returned (.int .i64 (2 ^ n.toNat)) ∧ w' = w := by
  go_enter Tryz.func97, Tryz.ntmps97
  go_wp2
  go_loop [3, 4] (fun x i => ∃ k : Nat, (k : Int) ≤ n ∧ i = .int .i64 k ∧ x = .int .i64 (2 ^ k)) (fun _ i => n.toNat - (intOf i).toNat)
  case atStart => exact ⟨0, by omega, rfl, rfl⟩
  case round =>
    obtain ⟨k, hk, rfl, rfl⟩ := hrel
    have hp := pow_bd k 62 (by omega)
    have hp2 : (2 : Int) ^ (k + 1) = 2 * 2 ^ k := by rw [Int.pow_succ]; omega
    have HP := hide hp2
    clear hp2
    by_cases hlt : (k : Int) < n
    · have hp3 := pow_bd (k + 1) 62 (by omega)
      rw [HP.out] at hp3
      generalize hq : (2 : Int) ^ k = q at *
      have HQ := hide hq
      clear hq
      go_wp2
      go_round
      case rel => exact ⟨k + 1, by omega, by go_num, by rw [HP.out]⟩
      case measure => simp [intOf]; omega
    · obtain rfl : n = (k : Int) := by omega
      go_wp2
      go_ret
      exact ⟨rfl, rfl⟩

theorem floor_neg (a d : Int) (hd : 0 < d) : -((-a + d - 1) / d) = a / d := by
  have h1 := Int.emod_add_mul_ediv a d
  have h2 := Int.emod_nonneg a (show d ≠ 0 by omega)
  have h3 := Int.emod_lt_of_pos a hd
  have h4 : -a + d - 1 = (d - 1 - a % d) + d * (-(a / d)) := by rw [Int.mul_neg]; omega
  rw [h4, Int.add_mul_ediv_left _ _ (by omega), Int.ediv_eq_zero_of_lt (by omega) (by omega)]
  omega

theorem rfloor_any (a d : Int) (w : World) (ha : -4611686018427387904 ≤ a ∧ a ≤ 4611686018427387904) (hd : 1 ≤ d ∧ d ≤ 4611686018427387904) :
    Calls Tryz.prog 96 #[.int .i64 a, .int .i64 d] w fun e w' => e = .returned (.int .i64 (a / d)) ∧ w' = w := by
  by_cases h : a < 0
  · have e := floor_neg a d (by omega)
    have e2 : 0 ≤ (-a + d - 1) / d := Int.ediv_nonneg (by omega) (by omega)
    have e3 := Int.ediv_le_self d (show 0 ≤ -a + d - 1 by omega)
    rw [← e]
    clear e
    have e4 : wrap64 (wrap64 (-a + d) - 1) = -a + d - 1 := by unfold wrap64; omega
    go_enter Tryz.func96, Tryz.ntmps96
    go_wp2
    go_ret
    exact ⟨rfl, rfl⟩
  · go_enter Tryz.func96, Tryz.ntmps96
    go_wp2
    go_ret
    exact ⟨rfl, rfl⟩

end Go.Proofs.YtihbhbeaihdgnaaGreat.Spn

/-
  The document's own bitwise: digit by digit.
-/
namespace Go.Proofs.YtihbhbeaihdgnaaGreat.Spn
open Go.RowKit Go.IntWalk
set_option linter.unusedVariables false

/-- What the digits below 2 to the k come to. -/
def outK (o : Bop) (a b : Int) (k : Nat) : Int := bw o a b - 2 ^ k * bw o (a / 2 ^ k) (b / 2 ^ k)

theorem outK_0 (o : Bop) (a b : Int) : outK o a b 0 = 0 := by simp [outK]

theorem div_range {a : Int} (ha : -2147483648 ≤ a ∧ a ≤ 2147483647) (k : Nat) : -2147483648 ≤ a / 2 ^ k ∧ a / 2 ^ k ≤ 2147483647 := by
  have hp : (0 : Int) < 2 ^ k := Int.pow_pos (by decide)
  generalize (2 : Int) ^ k = P at *
  constructor
  · exact Int.le_ediv_of_mul_le hp (by omega)
  · have : a / P < 2147483648 := Int.ediv_lt_of_lt_mul hp (by omega)
    omega

theorem div_next (a : Int) (k : Nat) : a / 2 ^ (k + 1) = a / 2 ^ k / 2 := by
  rw [Int.ediv_ediv_of_nonneg (Int.le_of_lt (Int.pow_pos (by decide))), Int.pow_succ]

theorem outK_next (o : Bop) {a b : Int} (ha : -2147483648 ≤ a ∧ a ≤ 2147483647) (hb : -2147483648 ≤ b ∧ b ≤ 2147483647) (k : Nat) :
    outK o a b (k + 1) = outK o a b k + o.dig (a / 2 ^ k % 2) (b / 2 ^ k % 2) * 2 ^ k := by
  have h1 := div_range ha k
  have h2 := div_range hb k
  have h := bw_step o (a / 2 ^ k) (b / 2 ^ k) (by omega) (by omega)
  unfold outK
  rw [div_next, div_next, h, Int.pow_succ, Int.mul_add, Int.mul_comm (o.dig _ _), Int.mul_assoc]
  omega

theorem outK_bd (o : Bop) {a b : Int} (ha : -2147483648 ≤ a ∧ a ≤ 2147483647) (hb : -2147483648 ≤ b ∧ b ≤ 2147483647) : ∀ k : Nat, 0 ≤ outK o a b k ∧ outK o a b k < 2 ^ k
  | 0 => by rw [outK_0]; decide
  | k + 1 => by
    have ih := outK_bd o ha hb k
    have hd := dig_01 o (a / 2 ^ k) (b / 2 ^ k)
    rw [outK_next o ha hb, Int.pow_succ]
    generalize (2 : Int) ^ k = P at *
    rcases (show o.dig (a / P % 2) (b / P % 2) = 0 ∨ o.dig (a / P % 2) (b / P % 2) = 1 by omega) with e | e <;> rw [e] <;> omega

theorem end_32 {a : Int} (ha : -2147483648 ≤ a ∧ a ≤ 2147483647) : a / 2 ^ 32 = 0 ∨ a / 2 ^ 32 = -1 := by omega

theorem outK_32 (o : Bop) {a b : Int} (ha : -2147483648 ≤ a ∧ a ≤ 2147483647) (hb : -2147483648 ≤ b ∧ b ≤ 2147483647) :
    (2147483648 ≤ outK o a b 32 ∧ outK o a b 32 - 4294967296 = bw o a b) ∨ (outK o a b 32 < 2147483648 ∧ outK o a b 32 = bw o a b) := by
  have h1 := bw_wd o ha hb
  have h2 : bw o (a / 2 ^ 32) (b / 2 ^ 32) = 0 ∨ bw o (a / 2 ^ 32) (b / 2 ^ 32) = -1 := by
    rcases end_32 ha with e | e <;> rcases end_32 hb with f | f <;> rw [e, f] <;> rcases o with _ | _ | _ <;> decide
  unfold outK
  omega

/-- The number as 32 digits. -/
def up (a : Int) : Int := if a < 0 then a + 4294967296 else a
theorem up_bd {a : Int} (ha : -2147483648 ≤ a ∧ a ≤ 2147483647) : 0 ≤ up a ∧ up a ≤ 4294967295 := by unfold up; split <;> omega

theorem up_dig {a : Int} (ha : -2147483648 ≤ a ∧ a ≤ 2147483647) (k : Nat) (hk : k < 32) : up a / 2 ^ k % 2 = a / 2 ^ k % 2 := by
  unfold up
  split
  · have e : (4294967296 : Int) = 2 ^ k * (2 * 2 ^ (31 - k)) := by
      rw [show (4294967296 : Int) = 2 ^ (k + (1 + (31 - k))) by rw [show k + (1 + (31 - k)) = 32 by omega]; decide, Int.pow_add, Int.pow_add]
      rfl
    rw [e, Int.add_mul_ediv_left _ _ (Int.ne_of_gt (Int.pow_pos (by decide))), Int.add_mul_emod_self_left]
  · rfl

theorem up_range {a : Int} (ha : -2147483648 ≤ a ∧ a ≤ 2147483647) (k : Nat) : 0 ≤ up a / 2 ^ k ∧ up a / 2 ^ k ≤ 4294967295 := by
  have h := up_bd ha
  have hp : (0 : Int) < 2 ^ k := Int.pow_pos (by decide)
  have := Int.ediv_le_self (2 ^ k) h.1
  exact ⟨Int.ediv_nonneg h.1 (Int.le_of_lt hp), by omega⟩

/-- What a round asks, and what it makes. -/
theorem bit_round (o : Bop) {a b : Int} (ha : -2147483648 ≤ a ∧ a ≤ 2147483647) (hb : -2147483648 ≤ b ∧ b ≤ 2147483647) (k : Nat) (hk : k < 32) :
    ∃ x y t p q m E, x = up a / 2 ^ k ∧ y = up b / 2 ^ k ∧ t = (2 : Int) ^ k ∧ x % 2 = p ∧ y % 2 = q ∧ p * q = m ∧ o.dig p q * t = E ∧ outK o a b (k + 1) = outK o a b k + E ∧ x / 2 = up a / 2 ^ (k + 1) ∧ y / 2 = up b / 2 ^ (k + 1) ∧ 2 * t = (2 : Int) ^ (k + 1) ∧
      (0 ≤ x ∧ x ≤ 4294967295) ∧ (0 ≤ y ∧ y ≤ 4294967295) ∧ (1 ≤ t ∧ t ≤ 2147483648) ∧ (0 ≤ p ∧ p ≤ 1) ∧ (0 ≤ q ∧ q ≤ 1) ∧ (0 ≤ m ∧ m ≤ 1) ∧ (0 ≤ E ∧ E ≤ 2147483648) ∧ (0 ≤ outK o a b k ∧ outK o a b k ≤ 4294967296) := by
  have h1 := pow_bd k 31 (by omega)
  have h2 := up_range ha k
  have h3 := up_range hb k
  have h4 := outK_next o ha hb k
  rw [← up_dig ha k hk, ← up_dig hb k hk] at h4
  have h5 := outK_bd o ha hb k
  have hd := dig_01 o (up a / 2 ^ k) (up b / 2 ^ k)
  refine ⟨_, _, _, _, _, _, _, rfl, rfl, rfl, rfl, rfl, rfl, rfl, h4, (div_next _ _).symm, (div_next _ _).symm, by rw [Int.pow_succ]; omega, h2, h3, ⟨h1.1, by omega⟩, by omega, by omega, ?_, ?_, by omega⟩
  · rcases two_dig (up a / 2 ^ k) with e | e <;> rcases two_dig (up b / 2 ^ k) with f | f <;> rw [e, f] <;> decide
  · rcases (show o.dig (up a / 2 ^ k % 2) (up b / 2 ^ k % 2) = 0 ∨ o.dig (up a / 2 ^ k % 2) (up b / 2 ^ k % 2) = 1 by omega) with e | e <;> rw [e] <;> omega

end Go.Proofs.YtihbhbeaihdgnaaGreat.Spn
