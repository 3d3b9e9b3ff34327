/-
  Division by a product and a shift, plainly (chapter 16).
-/
namespace Go.Proofs.Rdc
set_option linter.unusedVariables false

theorem magic_le {x d k P e q r : Int} (hd : 0 < d) (hk : k * d = P + e) (he : 0 < e) (hx : x = d * q + r) (hr0 : 0 ≤ r) (hr : r < d) (hP : 0 < P) (hx0 : 0 < x) (hs : e * x < P) : q * P < x * k ∧ x * k < (q + 1) * P := by
  have h1 : d * (x * k) = x * P + e * x := by
    have : d * (x * k) = x * (k * d) := by rw [Int.mul_comm k d, ← Int.mul_assoc, Int.mul_comm d x, Int.mul_assoc]
    rw [this, hk, Int.mul_add, Int.mul_comm x e]
  have hxe : 0 < e * x := Int.mul_pos he hx0
  have h2 : d * (q * P) = x * P - r * P := by
    rw [← Int.mul_assoc, ← Int.sub_mul]; congr 1; omega
  have h3 : d * ((q + 1) * P) = x * P + (d - r) * P := by
    rw [← Int.mul_assoc, ← Int.add_mul]; congr 1; rw [Int.mul_add]; omega
  have h4 : 0 ≤ r * P := Int.mul_nonneg hr0 (by omega)
  have h5 : P ≤ (d - r) * P := by
    have := Int.mul_le_mul_of_nonneg_right (show (1 : Int) ≤ d - r by omega) (show 0 ≤ P by omega)
    omega
  constructor
  · refine Int.lt_of_mul_lt_mul_left (a := d) ?_ (by omega)
    omega
  · refine Int.lt_of_mul_lt_mul_left (a := d) ?_ (by omega)
    omega
theorem div_of {n P q : Int} (hP : 0 < P) (h1 : q * P ≤ n) (h2 : n < (q + 1) * P) : n / P = q := by
  have h3 := (Int.le_ediv_iff_mul_le hP).2 h1
  have h4 := (Int.ediv_lt_iff_lt_mul hP).2 h2
  omega
/-- From 0 on the product and the shift divide. -/
theorem magic_pos {x d k P e : Int} (hd : 0 < d) (hk : k * d = P + e) (he : 0 < e) (hP : 0 < P) (hx0 : 0 ≤ x) (hs : e * x < P) : x * k / P = x.tdiv d := by
  rw [Int.tdiv_eq_ediv_of_nonneg hx0]
  by_cases h : x = 0
  · subst h; simp
  · have hx := (Int.mul_ediv_add_emod x d).symm
    obtain ⟨h1, h2⟩ := magic_le hd hk he hx (Int.emod_nonneg x (by omega)) (Int.emod_lt_of_pos x hd) hP (by omega) hs
    exact div_of hP (by omega) h2
/-- Below 0 one is added. -/
theorem magic_neg {x d k P e : Int} (hd : 0 < d) (hk : k * d = P + e) (he : 0 < e) (hP : 0 < P) (hx0 : x < 0) (hs : e * -x < P) : x * k / P + 1 = x.tdiv d := by
  have e1 : x.tdiv d = -((-x) / d) := by
    rw [← Int.tdiv_eq_ediv_of_nonneg (by omega), Int.neg_tdiv]
    omega
  have hx := (Int.mul_ediv_add_emod (-x) d).symm
  obtain ⟨h1, h2⟩ := magic_le hd hk he hx (Int.emod_nonneg (-x) (by omega)) (Int.emod_lt_of_pos (-x) hd) hP (by omega) hs
  rw [e1]
  have h3 : x * k / P = -((-x) / d) - 1 := by
    refine div_of hP ?_ ?_
    · have : (-(-x / d) - 1) * P = -((-x / d + 1) * P) := by rw [← Int.neg_mul]; congr 1; omega
      rw [this]
      rw [Int.neg_mul] at h2
      omega
    · have : (-(-x / d) - 1 + 1) * P = -((-x / d) * P) := by rw [← Int.neg_mul]; congr 1; omega
      rw [this]
      rw [Int.neg_mul] at h1
      omega
  omega

/-- Magic's search: at most f more shifts, from s on. -/
def mgR (size d : Int) : Nat → Nat → Int × Int × Bool
  | 0, _ => (0, 0, false)
  | f + 1, s => if 4611686018427387904 < (2 ^ s / d + 1) * size then (0, 0, false) else if ((2 ^ s / d + 1) * d - 2 ^ s) * size < 2 ^ s then (2 ^ s / d + 1, s, true) else mgR size d f (s + 1)
def mgZ (size d : Int) : Int × Int × Bool := if 2 ≤ d ∧ d ≤ 2147483647 ∧ 0 ≤ size ∧ size ≤ 2147483648 then mgR size d 63 0 else (0, 0, false)
theorem pow_pos' (s : Nat) : (0 : Int) < 2 ^ s := Int.pow_pos (by decide)
theorem pow_le' {n m : Nat} (h : n ≤ m) : (2 : Int) ^ n ≤ 2 ^ m := by
  have := Nat.pow_le_pow_right (show 0 < 2 by decide) h
  exact_mod_cast this
/-- What is above the quotient: e = k d - 2^s. -/
theorem mg_e {d : Int} (hd : 0 < d) (s : Nat) : 0 < (2 ^ s / d + 1) * d - 2 ^ s ∧ (2 ^ s / d + 1) * d - 2 ^ s ≤ d := by
  have h1 := Int.mul_ediv_add_emod (2 ^ s) d
  have h2 := Int.emod_nonneg (2 ^ s) (show d ≠ 0 by omega)
  have h3 := Int.emod_lt_of_pos (2 ^ s) hd
  have h4 : (2 ^ s / d + 1) * d = d * (2 ^ s / d) + d := by rw [Int.add_mul, Int.one_mul, Int.mul_comm]
  omega
theorem mgR_ok {size d : Int} : ∀ (f s : Nat) {k t : Int}, mgR size d f s = (k, t, true) → ∃ u : Nat, t = u ∧ s ≤ u ∧ u < s + f ∧ k = 2 ^ u / d + 1 ∧ (k * d - 2 ^ u) * size < 2 ^ u ∧ k * size ≤ 4611686018427387904
  | 0, s, k, t, h => by simp [mgR] at h
  | f + 1, s, k, t, h => by
    unfold mgR at h
    split at h
    · cases h
    · rename_i h1
      split at h
      · rename_i h2
        cases h
        exact ⟨s, rfl, Nat.le_refl _, by omega, rfl, h2, by omega⟩
      · obtain ⟨u, a1, a2, a3, a4⟩ := mgR_ok f (s + 1) h
        exact ⟨u, a1, by omega, by omega, a4⟩
/-- Whatever Magic answers divides, every number of that size. -/
theorem mg_div {size d k s x : Int} (h : mgZ size d = (k, s, true)) (h1 : -size ≤ x) (h2 : x ≤ size) : ∃ u : Nat, s = u ∧ u ≤ 62 ∧ 1 ≤ k ∧ k ≤ 4611686018427387904 ∧ k * size ≤ 4611686018427387904 ∧ 2 ≤ d ∧ (0 ≤ x → x * k / 2 ^ u = x.tdiv d) ∧ (x < 0 → x * k / 2 ^ u + 1 = x.tdiv d) := by
  unfold mgZ at h
  split at h
  · rename_i hm
    obtain ⟨u, a1, a2, a3, a4, a5, a6⟩ := mgR_ok 63 0 h
    have hd : 0 < d := by omega
    have hP := pow_pos' u
    obtain ⟨e1, e2⟩ := mg_e hd u
    have hk : k * d = 2 ^ u + (k * d - 2 ^ u) := by omega
    rw [a4] at hk a5 a6 ⊢
    have hk1 : 1 ≤ (2 : Int) ^ u / d + 1 := by
      have := Int.ediv_nonneg (show (0 : Int) ≤ 2 ^ u by omega) (show 0 ≤ d by omega)
      omega
    have hk2 : (2 : Int) ^ u / d + 1 ≤ 4611686018427387904 := by
      have hp := pow_le' (show u ≤ 62 by omega)
      have e62 : (2 : Int) ^ 62 = 4611686018427387904 := by decide
      have := Int.ediv_le_of_le_mul hd (show (2 : Int) ^ u ≤ 2305843009213693952 * d by omega)
      omega
    refine ⟨u, a1, by omega, hk1, hk2, a6, hm.1, fun hx => ?_, fun hx => ?_⟩
    · refine magic_pos hd hk e1 hP hx ?_
      have := Int.mul_le_mul_of_nonneg_left h2 (show 0 ≤ (2 ^ u / d + 1) * d - 2 ^ u by omega)
      omega
    · refine magic_neg hd hk e1 hP hx ?_
      have := Int.mul_le_mul_of_nonneg_left (show -x ≤ size by omega) (show 0 ≤ (2 ^ u / d + 1) * d - 2 ^ u by omega)
      omega
  · cases h
theorem mg_no {size d : Int} (h : (mgZ size d).2.2 = false) : mgZ size d = (0, 0, false) := by
  have : ∀ (f s : Nat), (mgR size d f s).2.2 = false → mgR size d f s = (0, 0, false) := by
    intro f
    induction f with
    | zero => intro s _; rfl
    | succ f ih =>
      intro s h
      unfold mgR at h ⊢
      split
      · rfl
      · rename_i h1
        rw [if_neg h1] at h
        split
        · rename_i h2
          rw [if_pos h2] at h
          cases h
        · rename_i h2
          rw [if_neg h2] at h
          exact ih _ h
  unfold mgZ at *
  split
  · rename_i hm
    rw [if_pos hm] at h
    exact this _ _ h
  · rfl
/-- Of numbers of at most 2^16 in size there is always one. -/
theorem mgR_small {size d : Int} (hd : 2 ≤ d) (hd2 : d ≤ 2147483647) (h0 : 0 ≤ size) (h1 : size ≤ 65536) : ∀ (f s : Nat), s + f = 63 → (s = 0 ∨ (2 : Int) ^ s ≤ 2 * (d * size)) → (mgR size d f s).2.2 = true
  | 0, s, hs, hp => by
    obtain rfl : s = 63 := by omega
    rcases hp with h | h
    · omega
    · exfalso
      have : d * size ≤ 2147483647 * 65536 := Int.mul_le_mul hd2 h1 h0 (by omega)
      have e : (2 : Int) ^ 63 = 9223372036854775808 := by decide
      omega
  | f + 1, s, hs, hp => by
    obtain ⟨e1, e2⟩ := mg_e (show 0 < d by omega) s
    have hks : (2 ^ s / d + 1) * size ≤ 4611686018427387904 := by
      have hk : (2 : Int) ^ s / d ≤ 2 * size + 1 := by
        rcases hp with h | h
        · subst h
          have : (2 : Int) ^ 0 / d ≤ 1 := Int.ediv_le_of_le_mul (by omega) (by simp; omega)
          omega
        · refine Int.ediv_le_of_le_mul (by omega) ?_
          have : (2 * size + 1) * d = 2 * (d * size) + d := by rw [Int.add_mul, Int.one_mul, Int.mul_assoc, Int.mul_comm size d]
          omega
      have := Int.mul_le_mul (show (2 : Int) ^ s / d + 1 ≤ 131074 by omega) h1 h0 (by omega)
      omega
    unfold mgR
    rw [if_neg (by omega)]
    split
    · rfl
    · rename_i hn
      refine mgR_small hd hd2 h0 h1 f (s + 1) (by omega) (.inr ?_)
      have := Int.mul_le_mul_of_nonneg_right e2 h0
      rw [Int.pow_succ]
      omega
theorem mg_small {size d : Int} (hd : 2 ≤ d) (hd2 : d ≤ 2147483647) (h0 : 0 ≤ size) (h1 : size ≤ 65536) : (mgZ size d).2.2 = true := by
  unfold mgZ
  rw [if_pos ⟨hd, hd2, h0, by omega⟩]
  exact mgR_small hd hd2 h0 h1 63 0 rfl (.inl rfl)

end Go.Proofs.Rdc

/-
  Power and Magic, plainly, step by step.
-/
namespace Go.Proofs.Rdc
set_option linter.unusedVariables false

/-- Power. -/
def pwZ (k : Int) : Int := match (List.range 31).find? (fun n => (2 : Int) ^ n == k) with | some n => (n : Int) | none => -1
theorem pw_cases (k : Int) : pwZ k = -1 ∨ ∃ n : Nat, n ≤ 30 ∧ pwZ k = n ∧ k = 2 ^ n := by
  unfold pwZ
  cases h : (List.range 31).find? (fun n => (2 : Int) ^ n == k) with
  | none => exact .inl rfl
  | some n =>
    right
    have h1 := List.find?_some h
    have h2 := List.mem_of_find?_eq_some h
    simp at h1 h2
    exact ⟨n, by omega, rfl, h1.symm⟩
theorem pow_inj' {n m : Nat} (h : (2 : Int) ^ n = 2 ^ m) : n = m := by
  have h' : 2 ^ n = 2 ^ m := by exact_mod_cast h
  rcases Nat.lt_trichotomy n m with h1 | h1 | h1
  · have := Nat.pow_lt_pow_right (show 1 < 2 by decide) h1
    omega
  · exact h1
  · have := Nat.pow_lt_pow_right (show 1 < 2 by decide) h1
    omega
theorem pw_of {k : Int} {n : Nat} (hn : n ≤ 30) (h : (2 : Int) ^ n = k) : pwZ k = n := by
  rcases pw_cases k with h1 | ⟨m, h1, h2, h3⟩
  · exfalso
    unfold pwZ at h1
    cases hf : (List.range 31).find? (fun n => (2 : Int) ^ n == k) with
    | none =>
      have := List.find?_eq_none.1 hf n (by simp; omega)
      simp [h] at this
    | some m => rw [hf] at h1; simp at h1
  · have := pow_inj' (h.trans h3)
    rw [h2, this]
theorem pw_no {k : Int} (h : ∀ n : Nat, n < 31 → (2 : Int) ^ n ≠ k) : pwZ k = -1 := by
  rcases pw_cases k with h1 | ⟨m, h1, h2, h3⟩
  · exact h1
  · exact absurd h3.symm (h m (by omega))
theorem pow_62 {n : Nat} (h : n ≤ 62) : (1 : Int) ≤ 2 ^ n ∧ (2 : Int) ^ n ≤ 4611686018427387904 := by
  have h1 := pow_pos' n
  have h2 := pow_le' h
  have e : (2 : Int) ^ 62 = 4611686018427387904 := by decide
  omega
/-- The factor at a shift, and what is asked of it. -/
theorem mg_step {size d : Int} (hd : 2 ≤ d) (hd2 : d ≤ 2147483647) (h0 : 0 ≤ size) (h1 : size ≤ 2147483648) {s : Nat} (hs : s ≤ 62) {P k e E : Int} (hP : (2 : Int) ^ s = P) (hk : P / d + 1 = k) (he : k * d - P = e) (hE : e * size = E) :
    1 ≤ P ∧ P ≤ 4611686018427387904 ∧ 1 ≤ k ∧ k ≤ 2305843009213693953 ∧ k * d ≤ 4611686020574871551 ∧ 0 ≤ k * d ∧ 0 ≤ e ∧ e ≤ 2147483647 ∧ 0 ≤ E ∧ E ≤ 4611686018427387904 ∧ (0 < size → (4611686018427387904 / size < k ↔ 4611686018427387904 < k * size)) ∧ (size = 0 → ¬ 4611686018427387904 < k * size) := by
  obtain ⟨p1, p2⟩ := pow_62 hs
  obtain ⟨e1, e2⟩ := mg_e (show 0 < d by omega) s
  rw [hP] at p1 p2 e1 e2
  rw [hk, he] at e1 e2
  have hq : 0 ≤ P / d := Int.ediv_nonneg (by omega) (by omega)
  have hq2 : P / d ≤ 2305843009213693952 := Int.ediv_le_of_le_mul (by omega) (by omega)
  refine ⟨p1, p2, by omega, by omega, by omega, by omega, by omega, by omega, ?_, ?_, fun h => ?_, fun h => ?_⟩
  · rw [← hE]; exact Int.mul_nonneg (by omega) h0
  · rw [← hE]
    have := Int.mul_le_mul (show e ≤ 2147483647 by omega) h1 h0 (by omega)
    omega
  · rw [Int.ediv_lt_iff_lt_mul h]
  · rw [h, Int.mul_zero]; omega
theorem mgR_big {size d : Int} {f s : Nat} (h : 4611686018427387904 < (2 ^ s / d + 1) * size) : mgR size d (f + 1) s = (0, 0, false) := by unfold mgR; rw [if_pos h]
theorem mgR_yes {size d : Int} {f s : Nat} (h : ¬ 4611686018427387904 < (2 ^ s / d + 1) * size) (h2 : ((2 ^ s / d + 1) * d - 2 ^ s) * size < 2 ^ s) : mgR size d (f + 1) s = (2 ^ s / d + 1, (s : Int), true) := by unfold mgR; rw [if_neg h, if_pos h2]
theorem mgR_next {size d : Int} {f s : Nat} (h : ¬ 4611686018427387904 < (2 ^ s / d + 1) * size) (h2 : ¬ ((2 ^ s / d + 1) * d - 2 ^ s) * size < 2 ^ s) : mgR size d (f + 1) s = mgR size d f (s + 1) := by
  rw [show mgR size d (f + 1) s = if 4611686018427387904 < (2 ^ s / d + 1) * size then (0, 0, false) else if ((2 ^ s / d + 1) * d - 2 ^ s) * size < 2 ^ s then (2 ^ s / d + 1, (s : Int), true) else mgR size d f (s + 1) from rfl, if_neg h, if_neg h2]

end Go.Proofs.Rdc
