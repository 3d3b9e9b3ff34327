/-
  Where a span is answered, the operator answers for all numbers of the arguments' spans, and its answer lies in the span.
-/
import Derived.Test.YtlhbgkaknfhlnaaSpHoldP
namespace Go.Proofs.Ytlhbgkaknfhlnaa.Spn
open Go.RowKit Go.IntWalk
set_option linter.unusedVariables false

theorem wh_wd {x y : Int} (h : whB x y = true) : wd x = true ∧ wd y = true := by
  have := whB_iff.1 h
  exact ⟨wd_iff.2 (by omega), wd_iff.2 (by omega)⟩

/-- What is known of the corners of an operator of two. -/
theorem corn_of {op k s a b c d lo hi : Int} (ho : ar op = 2) (hco : cons op k s = true) (ha : W32 a) (hb : W32 b) (hc : W32 c) (hd : W32 d)
    (h : cornZ (fun u v => valZ op k s [u, v]) a b c d = ((lo, hi), 0)) (g : Int → Int → Int) (hg : ∀ x y, a ≤ x → x ≤ b → c ≤ y → y ≤ d → (ex op k s x y 0).2 = 0 → (ex op k s x y 0).1 = g x y) (hm : Mid g a b c d) (hab : a ≤ b) (hcd : c ≤ d)
    {x y : Int} (h1 : a ≤ x) (h2 : x ≤ b) (h3 : c ≤ y) (h4 : y ≤ d) (he : (ex op k s x y 0).2 = 0) : lo ≤ (ex op k s x y 0).1 ∧ (ex op k s x y 0).1 ≤ hi := by
  obtain ⟨e1, e2, e3, e4, rfl, rfl⟩ := cornZ_inv h
  simp only [val2 ho hco ha hc, val2 ho hco ha hd, val2 ho hco hb hc, val2 ho hco hb hd] at *
  obtain ⟨p1, w1, q1⟩ := fnE_ok e1
  obtain ⟨p2, w2, q2⟩ := fnE_ok e2
  obtain ⟨p3, w3, q3⟩ := fnE_ok e3
  obtain ⟨p4, w4, q4⟩ := fnE_ok e4
  rw [q1, q2, q3, q4]
  have k1 := hg a c (Int.le_refl _) hab (Int.le_refl _) hcd p1
  have k2 := hg a d (Int.le_refl _) hab hcd (Int.le_refl _) p2
  have k3 := hg b c hab (Int.le_refl _) (Int.le_refl _) hcd p3
  have k4 := hg b d hab (Int.le_refl _) hcd (Int.le_refl _) p4
  have k5 := hg x y h1 h2 h3 h4 he
  have hh := hm.hull hab hcd h1 h2 h3 h4
  rw [wd_iff] at w1 w2 w3 w4
  rw [k1] at w1; rw [k2] at w2; rw [k3] at w3; rw [k4] at w4
  rw [k1, k2, k3, k4, k5]
  omega

/-- The counts of a shift whose span was answered. -/
theorem corn_count {op k s a b c d lo hi : Int} (hop : op = 13 ∨ op = 14) (ha : W32 a) (hb : W32 b) (hc : W32 c) (hd : W32 d)
    (h : cornZ (fun u v => valZ op k s [u, v]) a b c d = ((lo, hi), 0)) : 0 ≤ c ∧ d ≤ 31 := by
  obtain ⟨e1, e2, -, -, -, -⟩ := cornZ_inv h
  have ho : ar op = 2 := by rcases hop with rfl | rfl <;> rfl
  have hco : cons op k s = true := by rcases hop with rfl | rfl <;> rfl
  simp only [val2 ho hco ha hc, val2 ho hco ha hd] at e1 e2
  have p1 := (fnE_ok e1).1
  have p2 := (fnE_ok e2).1
  have key : ∀ y, (ex op k s a y 0).2 = 0 → inB y 0 31 = true := by
    intro y hy
    cases hi : inB y 0 31
    · rcases hop with rfl | rfl <;> simp [ex, hi] at hy
    · rfl
  have r1 := inB_iff.1 (key c p1)
  have r2 := inB_iff.1 (key d p2)
  omega

theorem hold_corn {op k s a b c d lo hi x y : Int} (hop : op = 10 ∨ op = 13 ∨ op = 14 ∨ op = 18 ∨ op = 19 ∨ op = 20 ∨ op = 21) (hw : whB a b = true) (hw' : whB c d = true)
    (h : cornZ (fun u v => valZ op k s [u, v]) a b c d = ((lo, hi), 0)) (h1 : a ≤ x) (h2 : x ≤ b) (h3 : c ≤ y) (h4 : y ≤ d) :
    (ex op k s x y 0).2 = 0 ∧ lo ≤ (ex op k s x y 0).1 ∧ (ex op k s x y 0).1 ≤ hi := by
  obtain ⟨hab, A1, A2, B1, B2⟩ := whB_iff.1 hw
  obtain ⟨hcd, C1, C2, D1, D2⟩ := whB_iff.1 hw'
  have ho : ar op = 2 := by rcases hop with rfl | rfl | rfl | rfl | rfl | rfl | rfl <;> rfl
  have hco : cons op k s = true := by rcases hop with rfl | rfl | rfl | rfl | rfl | rfl | rfl <;> rfl
  rcases hop with rfl | rfl | rfl | hop
  · exact ⟨rfl, corn_of ho hco ⟨A1, A2⟩ ⟨B1, B2⟩ ⟨C1, C2⟩ ⟨D1, D2⟩ h (fun x y => x * y) (fun _ _ _ _ _ _ _ => rfl) (mul_mid _ _ _ _) hab hcd h1 h2 h3 h4 rfl⟩
  · obtain ⟨hc0, hd31⟩ := corn_count (.inl rfl) ⟨A1, A2⟩ ⟨B1, B2⟩ ⟨C1, C2⟩ ⟨D1, D2⟩ h
    have hi : ∀ y, c ≤ y → y ≤ d → inB y 0 31 = true := fun y p q => inB_t (by omega) (by omega)
    have he : ∀ x y, c ≤ y → y ≤ d → ex 13 k s x y 0 = (x * 2 ^ y.toNat, 0) := fun x y p q => by simp [ex, hi y p q]
    have e0 : (ex 13 k s x y 0).2 = 0 := by rw [he x y h3 h4]
    exact ⟨e0, corn_of ho hco ⟨A1, A2⟩ ⟨B1, B2⟩ ⟨C1, C2⟩ ⟨D1, D2⟩ h (fun x y => x * 2 ^ y.toNat) (fun x y _ _ p q _ => by rw [he x y p q]) (shl_mid _ _ _ _ hc0) hab hcd h1 h2 h3 h4 e0⟩
  · obtain ⟨hc0, hd31⟩ := corn_count (.inr rfl) ⟨A1, A2⟩ ⟨B1, B2⟩ ⟨C1, C2⟩ ⟨D1, D2⟩ h
    have hi : ∀ y, c ≤ y → y ≤ d → inB y 0 31 = true := fun y p q => inB_t (by omega) (by omega)
    have he : ∀ x y, c ≤ y → y ≤ d → ex 14 k s x y 0 = (x / 2 ^ y.toNat, 0) := fun x y p q => by simp [ex, hi y p q]
    have e0 : (ex 14 k s x y 0).2 = 0 := by rw [he x y h3 h4]
    exact ⟨e0, corn_of ho hco ⟨A1, A2⟩ ⟨B1, B2⟩ ⟨C1, C2⟩ ⟨D1, D2⟩ h (fun x y => x / 2 ^ y.toNat) (fun x y _ _ p q _ => by rw [he x y p q]) (shr_mid _ _ _ _ hc0) hab hcd h1 h2 h3 h4 e0⟩
  · have e0 : (ex op k s x y 0).2 = 0 := by rcases hop with rfl | rfl | rfl | rfl <;> rfl
    exact ⟨e0, corn_of ho hco ⟨A1, A2⟩ ⟨B1, B2⟩ ⟨C1, C2⟩ ⟨D1, D2⟩ h (fun x y => (ex op k s x y 0).1) (fun _ _ _ _ _ _ _ => rfl) (cmp_mid op hop k s a b c d) hab hcd h1 h2 h3 h4 e0⟩

theorem hold_div {op k s a b c d lo hi x y : Int} (hop : op = 11 ∨ op = 12) (hw : whB a b = true) (hw' : whB c d = true)
    (h : divZ (fun u v => valZ op k s [u, v]) op a b c d = ((lo, hi), 0)) (h1 : a ≤ x) (h2 : x ≤ b) (h3 : c ≤ y) (h4 : y ≤ d) :
    (ex op k s x y 0).2 = 0 ∧ lo ≤ (ex op k s x y 0).1 ∧ (ex op k s x y 0).1 ≤ hi := by
  obtain ⟨hab, A1, A2, B1, B2⟩ := whB_iff.1 hw
  obtain ⟨hcd, C1, C2, D1, D2⟩ := whB_iff.1 hw'
  unfold divZ at h
  cases h0 : hasB c d 0
  · rw [h0] at h
    simp only [Bool.false_eq_true, if_false] at h
    have hz : ¬ (c ≤ 0 ∧ 0 ≤ d) := fun hh => by rw [hasB_iff.2 hh] at h0; cases h0
    have hy : y ≠ 0 := by omega
    rcases hop with rfl | rfl
    · simp only [if_true] at h
      have he : ∀ x y, c ≤ y → y ≤ d → ex 11 k s x y 0 = (x.tdiv y, 0) := fun x y p q => by simp [ex, show y ≠ 0 by omega]
      have e0 : (ex 11 k s x y 0).2 = 0 := by rw [he x y h3 h4]
      exact ⟨e0, corn_of rfl rfl ⟨A1, A2⟩ ⟨B1, B2⟩ ⟨C1, C2⟩ ⟨D1, D2⟩ h (fun x y => x.tdiv y) (fun x y _ _ p q _ => by rw [he x y p q]) (tdiv_mid _ _ _ _ hz) hab hcd h1 h2 h3 h4 e0⟩
    · rw [if_neg (by decide)] at h
      have he : ex 12 k s x y 0 = (x.tmod y, 0) := by simp [ex, hy]
      rw [he]
      have hf := tmod_facts x y hy
      unfold leftZ at h
      simp only [Prod.mk.injEq, and_true] at h
      obtain ⟨rfl, rfl⟩ := h
      refine ⟨rfl, ?_, ?_⟩
      · show (if a < 0 then _ else _) ≤ x.tmod y
        split <;> omega
      · show x.tmod y ≤ (if 0 < b then _ else _)
        split <;> omega
  · rw [h0] at h
    simp at h

theorem muls_mid {k s a b x : Int} (hk : 1 ≤ k) (h1 : a ≤ x) (h2 : x ≤ b) (ha : max a (-a) * k ≤ 4611686018427387904) (hb : max b (-b) * k ≤ 4611686018427387904) : max x (-x) * k ≤ 4611686018427387904 := by
  rcases (show max x (-x) ≤ max a (-a) ∨ max x (-x) ≤ max b (-b) by omega) with h | h
  · exact Int.le_trans (Int.mul_le_mul_of_nonneg_right h (by omega)) ha
  · exact Int.le_trans (Int.mul_le_mul_of_nonneg_right h (by omega)) hb

theorem ex33 {k s a : Int} (h : (ex 33 k s a 0 0).2 = 0) : max a (-a) * k ≤ 4611686018427387904 := by
  have e : ex 33 k s a 0 0 = if 4611686018427387904 < max a (-a) * k then (0, 13) else (a * k / 2 ^ s.toNat, 0) := rfl
  rw [e] at h
  split at h
  · simp at h
  · omega
theorem ex33' {k s a : Int} (h : max a (-a) * k ≤ 4611686018427387904) : ex 33 k s a 0 0 = (a * k / 2 ^ s.toNat, 0) := by
  have e : ex 33 k s a 0 0 = if 4611686018427387904 < max a (-a) * k then (0, 13) else (a * k / 2 ^ s.toNat, 0) := rfl
  rw [e, if_neg (by omega)]

/-- Operators of one that never fall. -/
theorem hold_ends1 {op k s a b lo hi x : Int} (hop : op = 7 ∨ op = 29 ∨ op = 30 ∨ op = 33) (hco : cons op k s = true) (hw : whB a b = true)
    (h : endsZ (fun xs => valZ op k s xs) [(a, b)] = ((lo, hi), 0)) (h1 : a ≤ x) (h2 : x ≤ b) :
    (ex op k s x 0 0).2 = 0 ∧ lo ≤ (ex op k s x 0 0).1 ∧ (ex op k s x 0 0).1 ≤ hi := by
  obtain ⟨hab, A1, A2, B1, B2⟩ := whB_iff.1 hw
  have ho : ar op = 1 := by rcases hop with rfl | rfl | rfl | rfl <;> rfl
  obtain ⟨e1, e2, rfl, rfl⟩ := endsZ_inv h
  have f1 : fsts [(a, b)] = [a] := rfl
  have f2 : snds [(a, b)] = [b] := rfl
  simp only [f1, f2, val1 ho hco ⟨A1, A2⟩, val1 ho hco ⟨B1, B2⟩] at *
  obtain ⟨p1, w1, q1⟩ := fnE_ok e1
  obtain ⟨p2, w2, q2⟩ := fnE_ok e2
  rw [q1, q2]
  rcases hop with rfl | rfl | rfl | rfl
  · refine ⟨rfl, ?_⟩
    show tr (decide (0 < a)) - tr (decide (a < 0)) ≤ tr (decide (0 < x)) - tr (decide (x < 0)) ∧ tr (decide (0 < x)) - tr (decide (x < 0)) ≤ tr (decide (0 < b)) - tr (decide (b < 0))
    have t1 := trd (0 < a)
    have t2 := trd (a < 0)
    have t3 := trd (0 < x)
    have t4 := trd (x < 0)
    have t5 := trd (0 < b)
    have t6 := trd (b < 0)
    omega
  · refine ⟨rfl, ?_⟩
    have hp := (pow_mono (Nat.le_refl k.toNat)).2
    exact ⟨Int.mul_le_mul_of_nonneg_right h1 (by omega), Int.mul_le_mul_of_nonneg_right h2 (by omega)⟩
  · refine ⟨rfl, ?_⟩
    have hp := (pow_mono (Nat.le_refl k.toNat)).2
    exact ⟨ediv_mono (by omega) h1, ediv_mono (by omega) h2⟩
  · have hk : (inB k 1 4611686018427387904 && inB s 0 62) = true := hco
    rw [Bool.and_eq_true, inB_iff, inB_iff] at hk
    have ma := ex33 p1
    have mb := ex33 p2
    have mx := muls_mid (s := s) hk.1.1 h1 h2 ma mb
    rw [ex33' ma, ex33' mb, ex33' mx]
    have hp := (pow_mono (Nat.le_refl s.toNat)).2
    exact ⟨rfl, ediv_mono (by omega) (Int.mul_le_mul_of_nonneg_right h1 (by omega)), ediv_mono (by omega) (Int.mul_le_mul_of_nonneg_right h2 (by omega))⟩

theorem hold_ends2 {op k s a b c d lo hi x y : Int} (hop : op = 24 ∨ op = 25) (hw : whB a b = true) (hw' : whB c d = true)
    (h : endsZ (fun xs => valZ op k s xs) [(a, b), (c, d)] = ((lo, hi), 0)) (h1 : a ≤ x) (h2 : x ≤ b) (h3 : c ≤ y) (h4 : y ≤ d) :
    (ex op k s x y 0).2 = 0 ∧ lo ≤ (ex op k s x y 0).1 ∧ (ex op k s x y 0).1 ≤ hi := by
  obtain ⟨hab, A1, A2, B1, B2⟩ := whB_iff.1 hw
  obtain ⟨hcd, C1, C2, D1, D2⟩ := whB_iff.1 hw'
  have ho : ar op = 2 := by rcases hop with rfl | rfl <;> rfl
  have hco : cons op k s = true := by rcases hop with rfl | rfl <;> rfl
  obtain ⟨e1, e2, rfl, rfl⟩ := endsZ_inv h
  have f1 : fsts [(a, b), (c, d)] = [a, c] := rfl
  have f2 : snds [(a, b), (c, d)] = [b, d] := rfl
  simp only [f1, f2, val2 ho hco ⟨A1, A2⟩ ⟨C1, C2⟩, val2 ho hco ⟨B1, B2⟩ ⟨D1, D2⟩] at *
  obtain ⟨p1, w1, q1⟩ := fnE_ok e1
  obtain ⟨p2, w2, q2⟩ := fnE_ok e2
  rw [q1, q2]
  rcases hop with rfl | rfl
  · refine ⟨rfl, ?_⟩
    show min a c ≤ min x y ∧ min x y ≤ min b d
    omega
  · refine ⟨rfl, ?_⟩
    show max a c ≤ max x y ∧ max x y ≤ max b d
    omega

theorem hold_ends3 {op k s a b c d e f lo hi x y z : Int} (hop : op = 26 ∨ op = 27) (hw : whB a b = true) (hw' : whB c d = true) (hw'' : whB e f = true)
    (h : endsZ (fun xs => valZ op k s xs) [(a, b), (c, d), (e, f)] = ((lo, hi), 0)) (h1 : a ≤ x) (h2 : x ≤ b) (h3 : c ≤ y) (h4 : y ≤ d) (h5 : e ≤ z) (h6 : z ≤ f) :
    (ex op k s x y z).2 = 0 ∧ lo ≤ (ex op k s x y z).1 ∧ (ex op k s x y z).1 ≤ hi := by
  obtain ⟨hab, A1, A2, B1, B2⟩ := whB_iff.1 hw
  obtain ⟨hcd, C1, C2, D1, D2⟩ := whB_iff.1 hw'
  obtain ⟨hef, E1, E2, F1, F2⟩ := whB_iff.1 hw''
  have ho : ar op = 3 := by rcases hop with rfl | rfl <;> rfl
  have hco : cons op k s = true := by rcases hop with rfl | rfl <;> rfl
  obtain ⟨e1, e2, rfl, rfl⟩ := endsZ_inv h
  have f1 : fsts [(a, b), (c, d), (e, f)] = [a, c, e] := rfl
  have f2 : snds [(a, b), (c, d), (e, f)] = [b, d, f] := rfl
  simp only [f1, f2, val3 ho hco ⟨A1, A2⟩ ⟨C1, C2⟩ ⟨E1, E2⟩, val3 ho hco ⟨B1, B2⟩ ⟨D1, D2⟩ ⟨F1, F2⟩] at *
  obtain ⟨p1, w1, q1⟩ := fnE_ok e1
  obtain ⟨p2, w2, q2⟩ := fnE_ok e2
  rw [q1, q2]
  rcases hop with rfl | rfl
  · refine ⟨rfl, ?_⟩
    show min e (max a c) ≤ min z (max x y) ∧ min z (max x y) ≤ min f (max b d)
    omega
  · refine ⟨rfl, ?_⟩
    show max (min a c) (min (max a c) e) ≤ max (min x y) (min (max x y) z) ∧ max (min x y) (min (max x y) z) ≤ max (min b d) (min (max b d) f)
    omega

theorem hold_both {a b c d x y : Int} (hw : whB a b = true) (hw' : whB c d = true) (h1 : a ≤ x) (h2 : x ≤ b) (h3 : c ≤ y) (h4 : y ≤ d) :
    (bothZ a b c d).1 ≤ bw .and x y ∧ bw .and x y ≤ (bothZ a b c d).2 := by
  obtain ⟨hab, A1, A2, B1, B2⟩ := whB_iff.1 hw
  obtain ⟨hcd, C1, C2, D1, D2⟩ := whB_iff.1 hw'
  unfold bothZ
  by_cases p : 0 ≤ a
  · have q1 := bw_below' (a := x) (b := y) (by omega) (by omega)
    by_cases q : 0 ≤ c
    · have q2 := bw_below (a := x) (b := y) (by omega) (by omega)
      rw [if_pos ⟨p, q⟩]
      show 0 ≤ _ ∧ _ ≤ min b d
      omega
    · rw [if_neg (by omega), if_pos p]
      show 0 ≤ _ ∧ _ ≤ b
      omega
  · by_cases q : 0 ≤ c
    · have q2 := bw_below (a := x) (b := y) (by omega) (by omega)
      rw [if_neg (by omega), if_neg p, if_pos q]
      show 0 ≤ _ ∧ _ ≤ d
      omega
    · rw [if_neg (by omega), if_neg p, if_neg q]
      exact bw_in .and ⟨A1, A2⟩ ⟨B1, B2⟩ ⟨C1, C2⟩ ⟨D1, D2⟩ h1 h2 h3 h4

/-! ### which way a span is reckoned -/
theorem rk_corn {op k s a b c d : Int} (h : op = 10 ∨ op = 13 ∨ op = 14 ∨ op = 18 ∨ op = 19 ∨ op = 20 ∨ op = 21) : reckZ op k s [(a, b), (c, d)] = cornZ (fun u v => valZ op k s [u, v]) a b c d := by
  unfold reckZ; rw [if_neg (by omega), if_neg (by omega), if_neg (by omega), if_pos h]; rfl
theorem rk_div {op k s a b c d : Int} (h : op = 11 ∨ op = 12) : reckZ op k s [(a, b), (c, d)] = divZ (fun u v => valZ op k s [u, v]) op a b c d := by
  unfold reckZ; rw [if_neg (by omega), if_neg (by omega), if_pos h]; rfl
theorem rk_ends {op k s : Int} {L : List (Int × Int)} (h : op = 7 ∨ op = 24 ∨ op = 25 ∨ op = 26 ∨ op = 27 ∨ op = 29 ∨ op = 30 ∨ op = 33) : reckZ op k s L = endsZ (fun xs => valZ op k s xs) L := by
  unfold reckZ; rw [if_neg (by omega), if_neg (by omega), if_neg (by omega), if_neg (by omega), if_pos h]
theorem rk_one {op k s a b : Int} (h : op = 5 ∨ op = 6) : reckZ op k s [(a, b)] = (oneZ op a b, 0) := by
  unfold reckZ; rw [if_neg (by omega), if_neg (by omega), if_neg (by omega), if_neg (by omega), if_neg (by omega)]; rfl
theorem rk_two {op k s a b c d : Int} (h : op = 8 ∨ op = 9 ∨ op = 15 ∨ op = 16 ∨ op = 17 ∨ op = 22 ∨ op = 23) : reckZ op k s [(a, b), (c, d)] = (twoZ op a b c d, 0) := by
  unfold reckZ; rw [if_neg (by omega), if_neg (by omega), if_neg (by omega), if_neg (by omega), if_neg (by omega)]; rfl
theorem rk_three {op k s a b c d e f : Int} (h : op = 28) : reckZ op k s [(a, b), (c, d), (e, f)] = (selZ a b c d e f, 0) := by
  unfold reckZ; rw [if_neg (by omega), if_neg (by omega), if_neg (by omega), if_neg (by omega), if_neg (by omega)]; rfl
theorem rk_mulk {op k s a b : Int} (h : op = 32) : reckZ op k s [(a, b)] = cornZ (fun u v => valZ 10 0 0 [u, v]) a b k k := by
  unfold reckZ; rw [if_pos h]; rfl
theorem rk_andk {op k s a b : Int} (h : op = 31) : reckZ op k s [(a, b)] = (bothZ a b k k, 0) := by
  unfold reckZ; rw [if_neg (by omega), if_pos h]; rfl

theorem two_ways {op : Int} (ho : ar op = 2) : (op = 11 ∨ op = 12) ∨ (op = 10 ∨ op = 13 ∨ op = 14 ∨ op = 18 ∨ op = 19 ∨ op = 20 ∨ op = 21) ∨ (op = 24 ∨ op = 25) ∨ (op = 8 ∨ op = 9 ∨ op = 15 ∨ op = 16 ∨ op = 17 ∨ op = 22 ∨ op = 23) := by
  have hr := inB_iff.1 (two_cases ho)
  omega

theorem hold_1 {op k s a b lo hi x : Int} (ho : ar op = 1) (hco : cons op k s = true) (hw : whB a b = true) (h : reckZ op k s [(a, b)] = ((lo, hi), 0)) (h1 : a ≤ x) (h2 : x ≤ b) :
    (ex op k s x 0 0).2 = 0 ∧ lo ≤ (ex op k s x 0 0).1 ∧ (ex op k s x 0 0).1 ≤ hi := by
  obtain ⟨hab, A1, A2, B1, B2⟩ := whB_iff.1 hw
  rcases one_cases ho with rfl | rfl | rfl | rfl | rfl | rfl | rfl | rfl
  · have h' : (oneZ 5 a b, (0 : Int)) = ((lo, hi), 0) := by rw [← rk_one (.inl rfl)]; exact h
    simp only [oneZ, if_true, Prod.mk.injEq, and_true] at h'
    obtain ⟨rfl, rfl⟩ := h'
    exact ⟨rfl, show -b ≤ -x by omega, show -x ≤ -a by omega⟩
  · have h' : (oneZ 6 a b, (0 : Int)) = ((lo, hi), 0) := by rw [← rk_one (.inr rfl)]; exact h
    refine ⟨rfl, ?_⟩
    show lo ≤ max x (-x) ∧ max x (-x) ≤ hi
    simp only [oneZ, show (6 : Int) ≠ 5 by decide, if_false, Prod.mk.injEq, and_true] at h'
    split at h'
    · simp only [Prod.mk.injEq] at h'; omega
    · split at h' <;> simp only [Prod.mk.injEq] at h' <;> omega
  · rw [rk_ends (by simp)] at h
    exact hold_ends1 (.inl rfl) hco hw h h1 h2
  · rw [rk_ends (by simp)] at h
    exact hold_ends1 (.inr (.inl rfl)) hco hw h h1 h2
  · rw [rk_ends (by simp)] at h
    exact hold_ends1 (.inr (.inr (.inl rfl))) hco hw h h1 h2
  · have hk : inB k 0 2147483647 = true := hco
    have hk' := inB_iff.1 hk
    have h' : (bothZ a b k k, (0 : Int)) = ((lo, hi), 0) := by rw [← rk_andk rfl]; exact h
    have e : bothZ a b k k = (lo, hi) := by simpa using h'
    have hh := hold_both hw (show whB k k = true from whB_iff.2 (by omega)) h1 h2 (Int.le_refl k) (Int.le_refl k)
    rw [e] at hh
    exact ⟨rfl, hh⟩
  · have hk : wd k = true := hco
    have hk' := wd_iff.1 hk
    have h' : cornZ (fun u v => valZ 10 0 0 [u, v]) a b k k = ((lo, hi), 0) := by rw [← rk_mulk (k := k) (s := s) rfl]; exact h
    have hh := hold_corn (op := 10) (k := 0) (s := 0) (.inl rfl) hw (show whB k k = true from whB_iff.2 (by omega)) h' h1 h2 (Int.le_refl k) (Int.le_refl k)
    exact hh
  · rw [rk_ends (by simp)] at h
    exact hold_ends1 (.inr (.inr (.inr rfl))) hco hw h h1 h2

theorem hold_2 {op k s a b c d lo hi x y : Int} (ho : ar op = 2) (hw : whB a b = true) (hw' : whB c d = true) (h : reckZ op k s [(a, b), (c, d)] = ((lo, hi), 0)) (h1 : a ≤ x) (h2 : x ≤ b) (h3 : c ≤ y) (h4 : y ≤ d) :
    (ex op k s x y 0).2 = 0 ∧ lo ≤ (ex op k s x y 0).1 ∧ (ex op k s x y 0).1 ≤ hi := by
  obtain ⟨hab, A1, A2, B1, B2⟩ := whB_iff.1 hw
  obtain ⟨hcd, C1, C2, D1, D2⟩ := whB_iff.1 hw'
  rcases two_ways ho with hop | hop | hop | hop
  · rw [rk_div hop] at h
    exact hold_div hop hw hw' h h1 h2 h3 h4
  · rw [rk_corn hop] at h
    exact hold_corn hop hw hw' h h1 h2 h3 h4
  · rw [rk_ends (by omega)] at h
    exact hold_ends2 hop hw hw' h h1 h2 h3 h4
  rw [rk_two hop] at h
  rcases hop with rfl | rfl | rfl | rfl | rfl | rfl | rfl
  · have h' : ((a + c, b + d), (0 : Int)) = ((lo, hi), 0) := h
    simp only [Prod.mk.injEq, and_true] at h'
    exact ⟨rfl, show lo ≤ x + y ∧ x + y ≤ hi by omega⟩
  · have h' : ((a - d, b - c), (0 : Int)) = ((lo, hi), 0) := h
    simp only [Prod.mk.injEq, and_true] at h'
    exact ⟨rfl, show lo ≤ x - y ∧ x - y ≤ hi by omega⟩
  · have h' : (bothZ a b c d, (0 : Int)) = ((lo, hi), 0) := h
    have e : bothZ a b c d = (lo, hi) := by simpa using h'
    have hh := hold_both hw hw' h1 h2 h3 h4
    rw [e] at hh
    exact ⟨rfl, hh⟩
  · have h' : (eithZ 16 a b c d, (0 : Int)) = ((lo, hi), 0) := h
    have hin := bw_in .or ⟨A1, A2⟩ ⟨B1, B2⟩ ⟨C1, C2⟩ ⟨D1, D2⟩ h1 h2 h3 h4
    refine ⟨rfl, ?_⟩
    show lo ≤ bw .or x y ∧ bw .or x y ≤ hi
    unfold eithZ at h'
    by_cases p : a < 0 ∨ c < 0
    · rw [if_pos p] at h'
      simp only [Prod.mk.injEq, and_true] at h'
      omega
    · rw [if_neg p, if_pos rfl] at h'
      simp only [Prod.mk.injEq, and_true] at h'
      have := bw_up (a := x) (b := y) (by omega) (by omega)
      omega
  · have h' : (eithZ 17 a b c d, (0 : Int)) = ((lo, hi), 0) := h
    have hin := bw_in .xor ⟨A1, A2⟩ ⟨B1, B2⟩ ⟨C1, C2⟩ ⟨D1, D2⟩ h1 h2 h3 h4
    refine ⟨rfl, ?_⟩
    show lo ≤ bw .xor x y ∧ bw .xor x y ≤ hi
    unfold eithZ at h'
    by_cases p : a < 0 ∨ c < 0
    · rw [if_pos p] at h'
      simp only [Prod.mk.injEq, and_true] at h'
      omega
    · rw [if_neg p, if_neg (by decide)] at h'
      simp only [Prod.mk.injEq, and_true] at h'
      have := bw_up (a := x) (b := y) (by omega) (by omega)
      omega
  · have h' : (eqZ a b c d, (0 : Int)) = ((lo, hi), 0) := h
    refine ⟨rfl, ?_⟩
    show lo ≤ tr (x == y) ∧ tr (x == y) ≤ hi
    have t := trb x y
    unfold eqZ at h'
    split at h'
    · simp only [Prod.mk.injEq, and_true] at h'; omega
    · split at h' <;> simp only [Prod.mk.injEq, and_true] at h' <;> omega
  · have h' : ((1 - (eqZ a b c d).2, 1 - (eqZ a b c d).1), (0 : Int)) = ((lo, hi), 0) := h
    refine ⟨rfl, ?_⟩
    show lo ≤ tr (x != y) ∧ tr (x != y) ≤ hi
    have t := trb x y
    unfold eqZ at h'
    split at h'
    · simp only [Prod.mk.injEq, and_true] at h'; omega
    · split at h' <;> simp only [Prod.mk.injEq, and_true] at h' <;> omega

theorem hold_3 {op k s a b c d e f lo hi x y z : Int} (ho : ar op = 3) (hw : whB a b = true) (hw' : whB c d = true) (hw'' : whB e f = true) (h : reckZ op k s [(a, b), (c, d), (e, f)] = ((lo, hi), 0))
    (h1 : a ≤ x) (h2 : x ≤ b) (h3 : c ≤ y) (h4 : y ≤ d) (h5 : e ≤ z) (h6 : z ≤ f) :
    (ex op k s x y z).2 = 0 ∧ lo ≤ (ex op k s x y z).1 ∧ (ex op k s x y z).1 ≤ hi := by
  have hr := inB_iff.1 (three_cases ho)
  rcases (show op = 26 ∨ op = 27 ∨ op = 28 by omega) with rfl | rfl | rfl
  · rw [rk_ends (by simp)] at h
    exact hold_ends3 (.inl rfl) hw hw' hw'' h h1 h2 h3 h4 h5 h6
  · rw [rk_ends (by simp)] at h
    exact hold_ends3 (.inr rfl) hw hw' hw'' h h1 h2 h3 h4 h5 h6
  · have h' : (selZ a b c d e f, (0 : Int)) = ((lo, hi), 0) := by rw [← rk_three rfl]; exact h
    refine ⟨rfl, ?_⟩
    show lo ≤ (if x = 0 then z else y) ∧ (if x = 0 then z else y) ≤ hi
    unfold selZ at h'
    cases h0 : hasB a b 0
    · rw [h0] at h'
      have hz : ¬ (a ≤ 0 ∧ 0 ≤ b) := fun hh => by rw [hasB_iff.2 hh] at h0; cases h0
      simp only [Bool.false_eq_true, if_false, Prod.mk.injEq, and_true] at h'
      rw [if_neg (by omega)]
      omega
    · rw [h0] at h'
      simp only [if_true] at h'
      split at h'
      · simp only [Prod.mk.injEq, and_true] at h'
        rw [if_pos (by omega)]
        omega
      · simp only [Prod.mk.injEq, and_true] at h'
        split <;> omega

end Go.Proofs.Ytlhbgkaknfhlnaa.Spn
