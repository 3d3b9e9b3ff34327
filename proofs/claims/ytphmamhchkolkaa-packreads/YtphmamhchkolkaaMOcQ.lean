/-
  Plain arithmetic and lists for layer 1 (octet): varints as lists of bytes; no Go in this text.
-/
import Derived.WalkKit
namespace Go.Proofs.Ytphmamhchkolkaa.Oct

/-- The bytes of a number below lim k: at most k + 1 of them, the lowest seven bits first. -/
def vb : Nat → Int → List Int
  | 0, x => [x]
  | k + 1, x => if x < 128 then [x] else (x % 128 + 128) :: vb k (x / 128)

def lim : Nat → Int
  | 0 => 2
  | k + 1 => 128 * lim k

def vint (x : Int) : List Int := vb 9 x

theorem lim9 : lim 9 = 18446744073709551616 := by decide

theorem lim_pos (k : Nat) : 2 ≤ lim k := by
  induction k with
  | zero => simp [lim]
  | succ k ih => simp only [lim]; omega

theorem vb_last (k : Nat) (x : Int) (h : x < 128) : vb k x = [x] := by
  cases k with
  | zero => rfl
  | succ k => simp only [vb]; rw [if_pos h]

theorem vb_more (k : Nat) (x : Int) (h : 128 ≤ x) : vb (k + 1) x = (x % 128 + 128) :: vb k (x / 128) := by
  simp only [vb]; rw [if_neg (by omega)]

theorem vb_len (k : Nat) (x : Int) : 1 ≤ (vb k x).length ∧ (vb k x).length ≤ k + 1 := by
  induction k generalizing x with
  | zero => simp [vb]
  | succ k ih =>
    simp only [vb]
    split
    · simp
    · have := ih (x / 128); simp only [List.length_cons]; omega

theorem vb_byte (k : Nat) (x : Int) (h0 : 0 ≤ x) (h : x < lim k) : ∀ z ∈ vb k x, 0 ≤ z ∧ z ≤ 255 := by
  induction k generalizing x with
  | zero => intro z hz; simp only [vb, List.mem_singleton] at hz; subst hz; simp only [lim] at h; omega
  | succ k ih =>
    intro z hz
    simp only [vb] at hz
    split at hz
    · simp only [List.mem_singleton] at hz; subst hz; omega
    · simp only [List.mem_cons] at hz
      simp only [lim] at h
      rcases hz with rfl | hz
      · omega
      · exact ih (x / 128) (by omega) (by omega) z hz

/-- Any number as a number from 0 on, and back. -/
def zz (n : Int) : Int := if n < 0 then -2 * n - 1 else 2 * n
def uz (x : Int) : Int := if x % 2 = 1 then -(x / 2) - 1 else x / 2

theorem zz_range (n : Int) (h0 : -9223372036854775808 ≤ n) (h1 : n ≤ 9223372036854775807) : 0 ≤ zz n ∧ zz n < 18446744073709551616 := by
  unfold zz; split <;> omega
theorem uz_range (x : Int) (h0 : 0 ≤ x) (h1 : x < 18446744073709551616) : -9223372036854775808 ≤ uz x ∧ uz x ≤ 9223372036854775807 := by
  unfold uz; split <;> omega
theorem uz_zz (n : Int) : uz (zz n) = n := by
  unfold uz zz; split <;> split <;> omega
theorem zz_uz (x : Int) (h0 : 0 ≤ x) : zz (uz x) = x := by
  unfold uz zz; split <;> split <;> omega

/-- Reading a varint, byte by byte: the number, how many bytes, the error. -/
def scn (i : Nat) (x p : Int) : List Int → Int × Int × Int
  | [] => (0, 0, 2)
  | c :: r =>
    if i = 9 ∧ 1 < c then (0, 0, 3)
    else if 128 ≤ c then scn (i + 1) (x + c % 128 * p) (128 * p) r
    else if c = 0 ∧ 0 < i then (0, 0, 3)
    else (x + c % 128 * p, (i : Int) + 1, 0)

def pw : Nat → Int
  | 0 => 1
  | k + 1 => 128 * pw k

theorem pw_pos (k : Nat) : 1 ≤ pw k := by
  induction k with
  | zero => simp [pw]
  | succ k ih => simp only [pw]; omega

theorem pw_pow (k : Nat) : pw k = (2 : Int) ^ (7 * k) := by
  induction k with
  | zero => rfl
  | succ k ih =>
    have e : 7 * (k + 1) = 7 * k + 7 := by omega
    simp only [pw]
    rw [ih, e, Int.pow_add]
    omega

theorem pw_le9 {k : Nat} (h : k ≤ 9) : pw k ≤ 9223372036854775808 := by
  have h9 : pw 9 = 9223372036854775808 := by decide
  have hmono : ∀ j, pw k ≤ pw (k + j) := by
    intro j
    induction j with
    | zero => exact Int.le_refl _
    | succ j ih => have := pw_pos (k + j); show pw k ≤ 128 * pw (k + j); omega
  have := hmono (9 - k)
  rw [show k + (9 - k) = 9 by omega, h9] at this
  exact this
theorem pw_le8 {k : Nat} (h : k ≤ 8) : pw k ≤ 72057594037927936 := by
  have h9 : pw 8 = 72057594037927936 := by decide
  have hmono : ∀ j, pw k ≤ pw (k + j) := by
    intro j
    induction j with
    | zero => exact Int.le_refl _
    | succ j ih => have := pw_pos (k + j); show pw k ≤ 128 * pw (k + j); omega
  have := hmono (8 - k)
  rw [show k + (8 - k) = 8 by omega, h9] at this
  exact this

def scan (zs : List Int) : Int × Int × Int := scn 0 0 1 zs

theorem drop_cons {zs : List Int} {k : Nat} (h : k < zs.length) : zs.drop k = zs.getD k 0 :: zs.drop (k + 1) := by
  rw [List.drop_eq_getElem_cons h]
  simp [List.getD, h]

end Go.Proofs.Ytphmamhchkolkaa.Oct

/-
  Plain facts on reading varints: what is read is what was written, and just the bytes of one form.
-/
namespace Go.Proofs.Ytphmamhchkolkaa.Oct

/-- What a reader reads at the head of l, behind i bytes that made x. -/
theorem scn_ok (l : List Int) : ∀ (i : Nat) (x : Int) (X m : Int), i ≤ 9 → (∀ c ∈ l, 0 ≤ c ∧ c ≤ 255) → scn i x (pw i) l = (X, m, 0) →
    ∃ (Y : Int) (j : Nat), X = x + Y * pw i ∧ 0 ≤ Y ∧ Y < lim (9 - i) ∧ (0 < i → 1 ≤ Y) ∧ m = i + j ∧ j ≤ l.length ∧ l.take j = vb (9 - i) Y := by
  induction l with
  | nil => intro i x X m _ _ h; simp [scn] at h
  | cons c r ih =>
    intro i x X m hi hby h
    have hc := hby c (by simp)
    rw [scn] at h
    split at h
    · simp at h
    · rename_i hbad
      split at h
      · rename_i h128
        have hi8 : i ≤ 8 := by omega
        obtain ⟨Y, j, h1, h2, h3, h4, h5, h6, h7⟩ := ih (i + 1) _ X m (by omega) (fun z hz => hby z (by simp [hz])) h
        have e9 : 9 - i = (9 - (i + 1)) + 1 := by omega
        have hY := h4 (by omega)
        refine ⟨c % 128 + 128 * Y, j + 1, ?_, by omega, ?_, fun _ => by omega, by omega, by simp; omega, ?_⟩
        · rw [h1]
          have e : (c % 128 + 128 * Y) * pw i = c % 128 * pw i + Y * (128 * pw i) := by rw [Int.add_mul, Int.mul_comm 128 Y, Int.mul_assoc]
          rw [e]
          simp only [pw]
          omega
        · rw [e9]; simp only [lim]; omega
        · rw [e9, vb_more _ _ (by omega), List.take_succ_cons, h7]
          congr 1
          · omega
          · congr 1; omega
      · rename_i h128
        split at h
        · simp at h
        · rename_i hz
          simp only [Prod.mk.injEq] at h
          obtain ⟨h1, h2, _⟩ := h
          have hcm : c % 128 = c := by omega
          refine ⟨c, 1, by rw [← h1, hcm], hc.1, ?_, fun h0 => by omega, by omega, by simp, ?_⟩
          · by_cases h9 : i = 9
            · subst h9; simp [lim]; omega
            · have hl : 2 ≤ lim (9 - i - 1) := lim_pos _
              rw [show 9 - i = (9 - i - 1) + 1 by omega]; simp only [lim]; omega
          · rw [vb_last _ _ (by omega)]; simp

/-- The bytes of Y, whatever stands behind them, are read as Y. -/
theorem scn_vb (k : Nat) : ∀ (i : Nat) (x Y : Int) (r : List Int), i + k = 9 → 0 ≤ Y → Y < lim k → (0 < i → 1 ≤ Y) → scn i x (pw i) (vb k Y ++ r) = (x + Y * pw i, (i : Int) + (vb k Y).length, 0) := by
  induction k with
  | zero =>
    intro i x Y r hi h0 h1 h2
    simp only [lim] at h1
    simp only [vb, List.cons_append, List.nil_append, scn, List.length_singleton]
    rw [if_neg (by omega), if_neg (by omega), if_neg (by omega), show Y % 128 = Y by omega]
    rfl
  | succ k ih =>
    intro i x Y r hi h0 h1 h2
    simp only [lim] at h1
    by_cases hY : Y < 128
    · rw [vb_last _ _ hY]
      simp only [List.cons_append, List.nil_append, scn, List.length_singleton]
      rw [if_neg (by omega), if_neg (by omega), if_neg (by omega), show Y % 128 = Y by omega]
      rfl
    · rw [vb_more _ _ (by omega)]
      simp only [List.cons_append, scn, List.length_cons]
      rw [if_neg (by omega), if_pos (by omega), show (Y % 128 + 128) % 128 = Y % 128 by omega]
      have := ih (i + 1) (x + Y % 128 * pw i) (Y / 128) r (by omega) (by omega) (by omega) (fun _ => by omega)
      simp only [pw] at this
      rw [this]
      have e : x + Y % 128 * pw i + Y / 128 * (128 * pw i) = x + Y * pw i := by
        have e2 : Y * pw i = (Y % 128 + Y / 128 * 128) * pw i := by congr 1; omega
        rw [e2, Int.add_mul, Int.mul_assoc]; omega
      rw [e]
      simp only [Prod.mk.injEq, and_true, true_and]
      omega

theorem scan_vint (x : Int) (r : List Int) (h0 : 0 ≤ x) (h1 : x < 18446744073709551616) : scan (vint x ++ r) = (x, ((vint x).length : Int), 0) := by
  have h := scn_vb 9 0 0 x r rfl h0 (by rw [lim9]; exact h1) (fun h => by omega)
  simp only [pw] at h
  unfold scan vint
  rw [h]
  simp

theorem scan_ok (zs : List Int) (X m : Int) (hby : ∀ c ∈ zs, 0 ≤ c ∧ c ≤ 255) (h : scan zs = (X, m, 0)) :
    0 ≤ X ∧ X < 18446744073709551616 ∧ m = (vint X).length ∧ (vint X).length ≤ zs.length ∧ zs.take (vint X).length = vint X := by
  obtain ⟨Y, j, h1, h2, h3, _, h5, h6, h7⟩ := scn_ok zs 0 0 X m (by omega) hby h
  simp only [pw] at h1
  have e : X = Y := by omega
  subst e
  have h7' : zs.take j = vint X := h7
  have hl : (vint X).length = j := by rw [← h7', List.length_take]; omega
  rw [show 9 - 0 = 9 from rfl, lim9] at h3
  exact ⟨h2, h3, by omega, by omega, by rw [hl]; exact h7'⟩

theorem scn_err (l : List Int) : ∀ (i : Nat) (x p : Int), (scn i x p l).2.2 = 0 ∨ scn i x p l = (0, 0, 2) ∨ scn i x p l = (0, 0, 3) := by
  induction l with
  | nil => intro i x p; exact .inr (.inl rfl)
  | cons c r ih =>
    intro i x p
    rw [scn]
    split
    · exact .inr (.inr rfl)
    · split
      · exact ih _ _ _
      · split
        · exact .inr (.inr rfl)
        · exact .inl rfl

/-- Scanning comes to a number and its length, or to an error. -/
theorem scan_cases (zs : List Int) (hby : ∀ c ∈ zs, 0 ≤ c ∧ c ≤ 255) :
    (∃ X, scan zs = (X, ((vint X).length : Int), 0) ∧ 0 ≤ X ∧ X < 18446744073709551616 ∧ (vint X).length ≤ zs.length ∧ zs.take (vint X).length = vint X) ∨ scan zs = (0, 0, 2) ∨ scan zs = (0, 0, 3) := by
  rcases scn_err zs 0 0 1 with h | h | h
  · obtain ⟨X, m, e⟩ : ∃ X m, scan zs = (X, m, 0) := ⟨(scan zs).1, (scan zs).2.1, by rw [← h]; rfl⟩
    obtain ⟨h0, h1, h2, h3, h4⟩ := scan_ok zs X m hby e
    exact .inl ⟨X, by rw [e, h2], h0, h1, h3, h4⟩
  · exact .inr (.inl h)
  · exact .inr (.inr h)

theorem vint_len (x : Int) : 1 ≤ (vint x).length ∧ (vint x).length ≤ 10 := vb_len 9 x
theorem vint_byte (x : Int) (h0 : 0 ≤ x) (h1 : x < 18446744073709551616) : ∀ z ∈ vint x, 0 ≤ z ∧ z ≤ 255 := vb_byte 9 x h0 (by rw [lim9]; exact h1)

/-- What Reader.Uint and Reader.Int come to: the number, how many bytes are taken, the error. -/
def rdU (zs : List Int) : Int × Nat × Int :=
  if (scan zs).2.2 = 0 then (if 9223372036854775807 < (scan zs).1 then (0, 0, 3) else ((scan zs).1, (scan zs).2.1.toNat, 0)) else (0, 0, (scan zs).2.2)
def rdI (zs : List Int) : Int × Nat × Int :=
  if (scan zs).2.2 = 0 then (uz (scan zs).1, (scan zs).2.1.toNat, 0) else (0, 0, (scan zs).2.2)

end Go.Proofs.Ytphmamhchkolkaa.Oct
