/-
  Bits and bytes as lists: how bits lie in bytes, and what is read of them.
-/
import Derived.Test.YtkmhdkeneggceaaMem
namespace Go.Proofs.Ytkmhdkeneggceaa
namespace Bt
set_option linter.unusedVariables false

/-- The bits are noughts and ones. -/
abbrev Bin (bs : List Int) : Prop := ∀ b ∈ bs, 0 ≤ b ∧ b ≤ 1

theorem bin_getD {bs : List Int} (h : Bin bs) (i : Nat) : 0 ≤ bs.getD i 0 ∧ bs.getD i 0 ≤ 1 := by
  by_cases hi : i < bs.length
  · have e : bs.getD i 0 = bs[i] := by simp [List.getD, hi]
    rw [e]; exact h _ (List.getElem_mem hi)
  · simp [List.getD, hi]

def byteAt (bs : List Int) (j : Nat) : Int :=
  128 * bs.getD (8 * j) 0 + 64 * bs.getD (8 * j + 1) 0 + 32 * bs.getD (8 * j + 2) 0 + 16 * bs.getD (8 * j + 3) 0 + 8 * bs.getD (8 * j + 4) 0 + 4 * bs.getD (8 * j + 5) 0 + 2 * bs.getD (8 * j + 6) 0 + bs.getD (8 * j + 7) 0

def pack (bs : List Int) : List Int := (List.range ((bs.length + 7) / 8)).map (byteAt bs)

theorem pack_len (bs : List Int) : (pack bs).length = (bs.length + 7) / 8 := by simp [pack]
theorem pack_nil : pack [] = [] := rfl

theorem byteAt_range {bs : List Int} (h : Bin bs) (j : Nat) : 0 ≤ byteAt bs j ∧ byteAt bs j ≤ 255 := by
  have h0 := bin_getD h (8 * j)
  have h1 := bin_getD h (8 * j + 1)
  have h2 := bin_getD h (8 * j + 2)
  have h3 := bin_getD h (8 * j + 3)
  have h4 := bin_getD h (8 * j + 4)
  have h5 := bin_getD h (8 * j + 5)
  have h6 := bin_getD h (8 * j + 6)
  have h7 := bin_getD h (8 * j + 7)
  unfold byteAt
  omega

theorem getD_out {bs : List Int} {i : Nat} (h : bs.length ≤ i) : bs.getD i 0 = 0 := by simp [List.getD, h]

theorem byteAt_out {bs : List Int} {j : Nat} (h : (bs.length + 7) / 8 ≤ j) : byteAt bs j = 0 := by
  unfold byteAt
  rw [getD_out (by omega), getD_out (by omega), getD_out (by omega), getD_out (by omega), getD_out (by omega), getD_out (by omega), getD_out (by omega), getD_out (by omega)]
  rfl

theorem pack_getD (bs : List Int) (j : Nat) : (pack bs).getD j 0 = byteAt bs j := by
  by_cases h : j < (bs.length + 7) / 8
  · simp [pack, List.getD, h]
  · rw [getD_out (by rw [pack_len]; omega), byteAt_out (by omega)]

theorem pack_byte {bs : List Int} (h : Bin bs) : ∀ z ∈ pack bs, 0 ≤ z ∧ z ≤ 255 := by
  intro z hz
  simp only [pack, List.mem_map] at hz
  obtain ⟨j, _, rfl⟩ := hz
  exact byteAt_range h j

theorem getD_snoc (bs : List Int) (b : Int) (i : Nat) : (bs ++ [b]).getD i 0 = if i = bs.length then b else bs.getD i 0 := by
  simp only [List.getD, List.getElem?_append]
  by_cases h : i < bs.length
  · simp [h, show ¬ i = bs.length by omega]
  · by_cases h2 : i = bs.length
    · simp [h2]
    · have : 0 < i - bs.length := by omega
      simp [h, h2, show ¬ i - bs.length = 0 by omega]

/-- The worth of the bit at place r of a byte. -/
def wt (r : Nat) : Int := 2 ^ (7 - r)

theorem byteAt_snoc (bs : List Int) (b : Int) (j : Nat) : byteAt (bs ++ [b]) j = byteAt bs j + if j = bs.length / 8 then b * wt (bs.length % 8) else 0 := by
  unfold byteAt
  simp only [getD_snoc]
  have hm : bs.length % 8 < 8 := Nat.mod_lt _ (by decide)
  by_cases hj : j = bs.length / 8
  · have e : bs.length = 8 * j + bs.length % 8 := by omega
    have ho : ∀ i, bs.length ≤ i → bs.getD i 0 = 0 := fun i hi => getD_out hi
    generalize hr : bs.length % 8 = r at *
    rw [if_pos hj]
    have hz := ho (8 * j + r) (by omega)
    have hcs : r = 0 ∨ r = 1 ∨ r = 2 ∨ r = 3 ∨ r = 4 ∨ r = 5 ∨ r = 6 ∨ r = 7 := by omega
    rcases hcs with rfl | rfl | rfl | rfl | rfl | rfl | rfl | rfl <;> simp [e, wt] at hz ⊢ <;> omega
  · rw [if_neg hj, if_neg (by omega), if_neg (by omega), if_neg (by omega), if_neg (by omega), if_neg (by omega), if_neg (by omega), if_neg (by omega), if_neg (by omega)]
    omega

/-- The last byte, where there is room: it is a multiple of twice the worth of the next bit. -/
theorem byteAt_mod (bs : List Int) : byteAt bs (bs.length / 8) % (2 * wt (bs.length % 8)) = 0 := by
  have hm : bs.length % 8 < 8 := Nat.mod_lt _ (by decide)
  have ho : ∀ i, bs.length ≤ i → bs.getD i 0 = 0 := fun i hi => getD_out hi
  have e : bs.length = 8 * (bs.length / 8) + bs.length % 8 := by omega
  unfold byteAt
  generalize bs.length / 8 = j at *
  generalize bs.length % 8 = r at *
  have h0 := fun h => ho (8 * j) h
  have h1 := fun h => ho (8 * j + 1) h
  have h2 := fun h => ho (8 * j + 2) h
  have h3 := fun h => ho (8 * j + 3) h
  have h4 := fun h => ho (8 * j + 4) h
  have h5 := fun h => ho (8 * j + 5) h
  have h6 := fun h => ho (8 * j + 6) h
  have h7 := fun h => ho (8 * j + 7) h
  clear ho
  generalize bs.getD (8 * j) 0 = x0 at *
  generalize bs.getD (8 * j + 1) 0 = x1 at *
  generalize bs.getD (8 * j + 2) 0 = x2 at *
  generalize bs.getD (8 * j + 3) 0 = x3 at *
  generalize bs.getD (8 * j + 4) 0 = x4 at *
  generalize bs.getD (8 * j + 5) 0 = x5 at *
  generalize bs.getD (8 * j + 6) 0 = x6 at *
  generalize bs.getD (8 * j + 7) 0 = x7 at *
  have hcs : r = 0 ∨ r = 1 ∨ r = 2 ∨ r = 3 ∨ r = 4 ∨ r = 5 ∨ r = 6 ∨ r = 7 := by omega
  rcases hcs with rfl | rfl | rfl | rfl | rfl | rfl | rfl | rfl <;> simp [wt] <;> omega

/-- What a bit more makes of the bytes. -/
theorem pack_snoc (bs : List Int) (b : Int) (zs : List Int) (hl : zs.length = bs.length / 8 + 1) (hz : ∀ j, zs.getD j 0 = byteAt bs j) :
    pack (bs ++ [b]) = zs.set (bs.length / 8) (byteAt bs (bs.length / 8) + b * wt (bs.length % 8)) := by
  apply List.ext_getElem
  · rw [pack_len, List.length_set, hl, List.length_append]; simp only [List.length_singleton]; omega
  · intro j h1 h2
    have e1 := pack_getD (bs ++ [b]) j
    rw [byteAt_snoc] at e1
    simp only [List.getD, List.getElem?_eq_getElem h1, Option.getD_some] at e1
    rw [e1, List.getElem_set]
    rw [List.length_set] at h2
    have e2 := hz j
    simp only [List.getD, List.getElem?_eq_getElem h2, Option.getD_some] at e2
    by_cases hj : j = bs.length / 8
    · subst hj; simp
    · rw [if_neg hj, if_neg (fun e => hj e.symm), e2, Int.add_zero]

/-- The bit at place k of some bytes. -/
def bitAt (zs : List Int) (k : Nat) : Int := zs.getD (k / 8) 0 / wt (k % 8) % 2

theorem bitAt_bin (zs : List Int) (k : Nat) : 0 ≤ bitAt zs k ∧ bitAt zs k ≤ 1 := by unfold bitAt; omega

theorem bitAt_pack {bs : List Int} (h : Bin bs) (k : Nat) : bitAt (pack bs) k = bs.getD k 0 := by
  unfold bitAt
  rw [pack_getD]
  have hm : k % 8 < 8 := Nat.mod_lt _ (by decide)
  have e : k = 8 * (k / 8) + k % 8 := by omega
  generalize k / 8 = j at *
  generalize k % 8 = r at *
  subst e
  have h0 := bin_getD h (8 * j)
  have h1 := bin_getD h (8 * j + 1)
  have h2 := bin_getD h (8 * j + 2)
  have h3 := bin_getD h (8 * j + 3)
  have h4 := bin_getD h (8 * j + 4)
  have h5 := bin_getD h (8 * j + 5)
  have h6 := bin_getD h (8 * j + 6)
  have h7 := bin_getD h (8 * j + 7)
  unfold byteAt
  have hcs : r = 0 ∨ r = 1 ∨ r = 2 ∨ r = 3 ∨ r = 4 ∨ r = 5 ∨ r = 6 ∨ r = 7 := by omega
  have hg : bs.getD (8 * j + r) 0 = if r = 0 then bs.getD (8 * j) 0 else if r = 1 then bs.getD (8 * j + 1) 0 else if r = 2 then bs.getD (8 * j + 2) 0 else if r = 3 then bs.getD (8 * j + 3) 0 else if r = 4 then bs.getD (8 * j + 4) 0 else if r = 5 then bs.getD (8 * j + 5) 0 else if r = 6 then bs.getD (8 * j + 6) 0 else bs.getD (8 * j + 7) 0 := by
    rcases hcs with rfl | rfl | rfl | rfl | rfl | rfl | rfl | rfl <;> rfl
  rw [hg]
  clear hg
  generalize bs.getD (8 * j) 0 = x0 at *
  generalize bs.getD (8 * j + 1) 0 = x1 at *
  generalize bs.getD (8 * j + 2) 0 = x2 at *
  generalize bs.getD (8 * j + 3) 0 = x3 at *
  generalize bs.getD (8 * j + 4) 0 = x4 at *
  generalize bs.getD (8 * j + 5) 0 = x5 at *
  generalize bs.getD (8 * j + 6) 0 = x6 at *
  generalize bs.getD (8 * j + 7) 0 = x7 at *
  rcases hcs with rfl | rfl | rfl | rfl | rfl | rfl | rfl | rfl <;> simp [wt] <;> omega

/-- The bits of a number, the highest first. -/
def binw (n : Int) (k : Nat) : List Int := (List.range k).map (fun i => n / 2 ^ (k - 1 - i) % 2)

theorem binw_len (n : Int) (k : Nat) : (binw n k).length = k := by simp [binw]
theorem binw_bin (n : Int) (k : Nat) : Bin (binw n k) := by
  intro b hb
  simp only [binw, List.mem_map] at hb
  obtain ⟨i, _, rfl⟩ := hb
  omega

/-- The bits of a run. -/
def runs (n most : Nat) : List Int := List.replicate n 1 ++ if n < most then [0] else []
theorem runs_bin (n most : Nat) : Bin (runs n most) := by
  intro b hb
  simp only [runs, List.mem_append, List.mem_replicate] at hb
  rcases hb with ⟨_, rfl⟩ | hb
  · omega
  · split at hb
    · simp at hb; omega
    · simp at hb

theorem Bin.append {a b : List Int} (ha : Bin a) (hb : Bin b) : Bin (a ++ b) := by
  intro x hx
  rcases List.mem_append.1 hx with h | h
  · exact ha x h
  · exact hb x h

/-- The number of k bits from at on. -/
def num (f : Nat → Int) (at' : Nat) : Nat → Int
  | 0 => 0
  | k + 1 => 2 * num f at' k + f (at' + k)

theorem num_range {f : Nat → Int} (hf : ∀ k, 0 ≤ f k ∧ f k ≤ 1) (at' k : Nat) : 0 ≤ num f at' k ∧ num f at' k < 2 ^ k := by
  induction k with
  | zero => simp [num]
  | succ k ih => have := hf (at' + k); simp only [num, Int.pow_succ]; omega

theorem num_congr {f g : Nat → Int} {a b k : Nat} (h : ∀ i, i < k → f (a + i) = g (b + i)) : num f a k = num g b k := by
  induction k with
  | zero => rfl
  | succ k ih => simp only [num]; rw [ih (fun i hi => h i (by omega)), h k (by omega)]

theorem div_pow_succ (n : Int) (k : Nat) : n / 2 ^ (k + 1) = n / 2 ^ k / 2 := by
  rw [Int.pow_succ, ← Int.ediv_ediv_of_nonneg (Int.pow_nonneg (by decide) )]

/-- The number of the first i of k bits of n. -/
theorem num_binw {n : Int} {f : Nat → Int} {a k : Nat} (h0 : 0 ≤ n) (h1 : n < 2 ^ k) (hf : ∀ i, i < k → f (a + i) = n / 2 ^ (k - 1 - i) % 2) : num f a k = n := by
  have key : ∀ i, i ≤ k → num f a i = n / 2 ^ (k - i) := by
    intro i hi
    induction i with
    | zero => simp only [num, Nat.sub_zero]; rw [Int.ediv_eq_zero_of_lt h0 h1]
    | succ i ih =>
      simp only [num]
      rw [ih (by omega), hf i (by omega)]
      have e1 : k - i = (k - (i + 1)) + 1 := by omega
      have e2 : k - 1 - i = k - (i + 1) := by omega
      rw [e1, e2, div_pow_succ]
      omega
  rw [key k (Nat.le_refl _)]
  simp

end Bt
end Go.Proofs.Ytkmhdkeneggceaa
