/-
  Plain arithmetic and lists for layer 1 (octet): varints as lists of bytes; no Go in this text.
-/
import Derived.WalkKit
namespace Go.Proofs.Ytibaejoonmedjaa.Oct

/-- The bytes of a number below lim k: at most k + 1 of them, the lowest seven bits first. -/
def vb : Nat → Int → List Int
  | 0, x => [x]
  | k + 1, x => if x < 128 then [x] else (x % 128 + 128) :: vb k (x / 128)

def lim : Nat → Int
  | 0 => 2
  | k + 1 => 128 * lim k

def vint (x : Int) : List Int := vb 9 x

theorem lim9 : lim 9 = 18446744073709551616 := by decide

theorem lim_pos (k : Nat) : 2 ≤ lim k := by
  induction k with
  | zero => simp [lim]
  | succ k ih => simp only [lim]; omega

theorem vb_last (k : Nat) (x : Int) (h : x < 128) : vb k x = [x] := by
  cases k with
  | zero => rfl
  | succ k => simp only [vb]; rw [if_pos h]

theorem vb_more (k : Nat) (x : Int) (h : 128 ≤ x) : vb (k + 1) x = (x % 128 + 128) :: vb k (x / 128) := by
  simp only [vb]; rw [if_neg (by omega)]

theorem vb_len (k : Nat) (x : Int) : 1 ≤ (vb k x).length ∧ (vb k x).length ≤ k + 1 := by
  induction k generalizing x with
  | zero => simp [vb]
  | succ k ih =>
    simp only [vb]
    split
    · simp
    · have := ih (x / 128); simp only [List.length_cons]; omega

theorem vb_byte (k : Nat) (x : Int) (h0 : 0 ≤ x) (h : x < lim k) : ∀ z ∈ vb k x, 0 ≤ z ∧ z ≤ 255 := by
  induction k generalizing x with
  | zero => intro z hz; simp only [vb, List.mem_singleton] at hz; subst hz; simp only [lim] at h; omega
  | succ k ih =>
    intro z hz
    simp only [vb] at hz
    split at hz
    · simp only [List.mem_singleton] at hz; subst hz; omega
    · simp only [List.mem_cons] at hz
      simp only [lim] at h
      rcases hz with rfl | hz
      · omega
      · exact ih (x / 128) (by omega) (by omega) z hz

/-- Any number as a number from 0 on, and back. -/
def zz (n : Int) : Int := if n < 0 then -2 * n - 1 else 2 * n
def uz (x : Int) : Int := if x % 2 = 1 then -(x / 2) - 1 else x / 2

theorem zz_range (n : Int) (h0 : -9223372036854775808 ≤ n) (h1 : n ≤ 9223372036854775807) : 0 ≤ zz n ∧ zz n < 18446744073709551616 := by
  unfold zz; split <;> omega
theorem uz_range (x : Int) (h0 : 0 ≤ x) (h1 : x < 18446744073709551616) : -9223372036854775808 ≤ uz x ∧ uz x ≤ 9223372036854775807 := by
  unfold uz; split <;> omega
theorem uz_zz (n : Int) : uz (zz n) = n := by
  unfold uz zz; split <;> split <;> omega
theorem zz_uz (x : Int) (h0 : 0 ≤ x) : zz (uz x) = x := by
  unfold uz zz; split <;> split <;> omega

/-- Reading a varint, byte by byte: the number, how many bytes, the error. -/
def scn (i : Nat) (x p : Int) : List Int → Int × Int × Int
  | [] => (0, 0, 2)
  | c :: r =>
    if i = 9 ∧ 1 < c then (0, 0, 3)
    else if 128 ≤ c then scn (i + 1) (x + c % 128 * p) (128 * p) r
    else if c = 0 ∧ 0 < i then (0, 0, 3)
    else (x + c % 128 * p, (i : Int) + 1, 0)

def pw : Nat → Int
  | 0 => 1
  | k + 1 => 128 * pw k

theorem pw_pos (k : Nat) : 1 ≤ pw k := by
  induction k with
  | zero => simp [pw]
  | succ k ih => simp only [pw]; omega

theorem pw_pow (k : Nat) : pw k = (2 : Int) ^ (7 * k) := by
  induction k with
  | zero => rfl
  | succ k ih =>
    have e : 7 * (k + 1) = 7 * k + 7 := by omega
    simp only [pw]
    rw [ih, e, Int.pow_add]
    omega

theorem pw_le9 {k : Nat} (h : k ≤ 9) : pw k ≤ 9223372036854775808 := by
  have h9 : pw 9 = 9223372036854775808 := by decide
  have hmono : ∀ j, pw k ≤ pw (k + j) := by
    intro j
    induction j with
    | zero => exact Int.le_refl _
    | succ j ih => have := pw_pos (k + j); show pw k ≤ 128 * pw (k + j); omega
  have := hmono (9 - k)
  rw [show k + (9 - k) = 9 by omega, h9] at this
  exact this
theorem pw_le8 {k : Nat} (h : k ≤ 8) : pw k ≤ 72057594037927936 := by
  have h9 : pw 8 = 72057594037927936 := by decide
  have hmono : ∀ j, pw k ≤ pw (k + j) := by
    intro j
    induction j with
    | zero => exact Int.le_refl _
    | succ j ih => have := pw_pos (k + j); show pw k ≤ 128 * pw (k + j); omega
  have := hmono (8 - k)
  rw [show k + (8 - k) = 8 by omega, h9] at this
  exact this

def scan (zs : List Int) : Int × Int × Int := scn 0 0 1 zs

theorem drop_cons {zs : List Int} {k : Nat} (h : k < zs.length) : zs.drop k = zs.getD k 0 :: zs.drop (k + 1) := by
  rw [List.drop_eq_getElem_cons h]
  simp [List.getD, h]

end Go.Proofs.Ytibaejoonmedjaa.Oct
