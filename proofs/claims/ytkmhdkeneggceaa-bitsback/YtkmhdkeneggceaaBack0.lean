/-
  What was written is read back by the same steps: on lists of bits.
-/
import Derived.Test.YtkmhdkeneggceaaSteps
namespace Go.Proofs.Ytkmhdkeneggceaa
open Go.RowKit Bt
set_option linter.unusedVariables false

theorem getD_mid (pre m post : List Int) {i : Nat} (h : i < m.length) : (pre ++ m ++ post).getD (pre.length + i) 0 = m.getD i 0 := by
  simp only [List.getD]
  rw [List.append_assoc, List.getElem?_append_right (by omega), List.getElem?_append_left (by omega)]
  congr 2
  omega

theorem runs_getD {n m i : Nat} (h : i < (runs n m).length) : (runs n m).getD i 0 = if i < n then 1 else 0 := by
  rw [runs_len] at h
  unfold runs
  simp only [List.getD]
  by_cases hi : i < n
  · rw [List.getElem?_append_left (by simpa using hi)]
    simp [hi]
  · have hm : n < m := by
      by_cases hm : n < m
      · exact hm
      · rw [if_neg hm] at h; omega
    rw [if_pos hm] at h
    obtain rfl : i = n := by omega
    simp [hm]

theorem binw_getD {n : Int} {k i : Nat} (h : i < k) : (binw n k).getD i 0 = n / 2 ^ (k - 1 - i) % 2 := by
  simp [binw, List.getD, h]

theorem read_ones {s : Stp} (ho : s.o = true) (hk : s.ok = true) {f : Nat → Int} {pre post : List Int} (hf : ∀ k, f k = (pre ++ s.made ++ post).getD k 0) {left : Nat} (hl : s.made.length ≤ left) :
    ct f pre.length left s.d = (s.n, s.made.length, 0) := by
  have h := hk
  rw [Stp.ok_ones ho] at h
  have h := of_decide_eq_true h
  obtain ⟨n, hn⟩ := Int.eq_ofNat_of_zero_le h.2.2.1
  obtain ⟨d, hd⟩ := Int.eq_ofNat_of_zero_le h.1
  have e2 : s.made = runs n d := by unfold Stp.made; rw [if_pos hk, if_pos ho, hn, hd]; rfl
  rw [e2] at hl hf ⊢
  rw [hn, hd] at h
  rw [hn, hd]
  have hf' : ∀ i, i < (runs n d).length → f (pre.length + i) = if i < n then 1 else 0 := fun i hi => by rw [hf, getD_mid _ _ _ hi, runs_getD hi]
  rw [runs_len] at hl hf' ⊢
  have hlead : lead f pre.length (min d left) = n := by
    obtain ⟨h1, h2, h3⟩ := lead_spec f pre.length (min d left)
    generalize lead f pre.length (min d left) = K at *
    rcases Nat.lt_trichotomy K n with h' | h' | h'
    · have a := h3 (by omega)
      have b := hf' K (by omega)
      rw [if_pos h'] at b
      omega
    · exact h'
    · have hnd : n < d := by omega
      have a := h2 n h'
      have b := hf' n (by rw [if_pos hnd]; omega)
      rw [if_neg (by omega)] at b
      exact absurd b a
  by_cases hnd : n < d
  · rw [if_pos hnd] at hl ⊢
    rw [ct_ok (by omega) (by rw [hlead]; omega) (by rw [hlead]; omega), hlead]
  · rw [if_neg hnd] at hl ⊢
    have : n = d := by omega
    subst this
    rw [ct_all (by omega) hlead, Nat.add_zero]

theorem read_plain {s : Stp} (ho : s.o = false) (hk : s.ok = true) {f : Nat → Int} {pre post : List Int} (hf : ∀ k, f k = (pre ++ s.made ++ post).getD k 0) {left : Nat} (hl : s.made.length ≤ left) :
    tk f pre.length left s.d = (s.n, s.made.length, 0) := by
  have h := hk
  rw [Stp.ok_plain ho] at h
  have h := of_decide_eq_true h
  obtain ⟨d, hd⟩ := Int.eq_ofNat_of_zero_le h.1
  have e2 : s.made = binw s.n d := by unfold Stp.made; rw [if_pos hk, if_neg (by simp [ho]), hd]; rfl
  rw [e2] at hl hf ⊢
  rw [hd] at h
  rw [hd]
  rw [binw_len] at hl ⊢
  rw [tk_ok (by omega) hl]
  rw [num_binw (n := s.n) h.2.2.1 (by simpa using h.2.2.2) (fun i hi => by rw [hf, getD_mid _ _ _ (by rw [binw_len]; exact hi), binw_getD hi])]

/-- The steps that were done. -/
def doneOf (S : Nat → Stp) : Nat → List Stp
  | 0 => []
  | i + 1 => if (S i).ok then doneOf S i ++ [S i] else doneOf S i
def bitsOf (D : List Stp) : List Int := D.flatMap Stp.made
def cellsOf (D : List Stp) : List Value := D.flatMap Stp.cells

theorem bitsOf_snoc (D : List Stp) (s : Stp) : bitsOf (D ++ [s]) = bitsOf D ++ s.made := by simp [bitsOf]
theorem cellsOf_snoc (D : List Stp) (s : Stp) : cellsOf (D ++ [s]) = cellsOf D ++ s.cells := by simp [cellsOf]
theorem doneOf_ok {S : Nat → Stp} {i : Nat} (h : (S i).ok = true) : doneOf S (i + 1) = doneOf S i ++ [S i] := by simp [doneOf, h]
theorem doneOf_bad {S : Nat → Stp} {i : Nat} (h : (S i).ok = false) : doneOf S (i + 1) = doneOf S i := by simp [doneOf, h]
theorem made_bad {s : Stp} (h : s.ok = false) : s.made = [] := by simp [Stp.made, h]
theorem doneOf_len (S : Nat → Stp) (i : Nat) : (doneOf S i).length ≤ i := by
  induction i with
  | zero => exact Nat.le_refl _
  | succ i ih =>
    unfold doneOf
    split
    · simp; omega
    · omega
theorem doneOf_all (S : Nat → Stp) (i : Nat) : ∀ s ∈ doneOf S i, s.ok = true := by
  induction i with
  | zero => intro s hs; cases hs
  | succ i ih =>
    unfold doneOf
    split
    · rename_i h
      intro s hs
      rcases List.mem_append.1 hs with h' | h'
      · exact ih s h'
      · simp at h'; subst h'; exact h
    · exact ih
theorem bitsOf_len (D : List Stp) : (bitsOf D).length ≤ 65 * D.length := by
  induction D with
  | nil => exact Nat.le_refl _
  | cons s D ih => have := s.made_len; simp only [bitsOf, List.flatMap_cons, List.length_append, List.length_cons] at *; omega
theorem bitsOf_bin (D : List Stp) : Bin (bitsOf D) := by
  intro b hb
  simp only [bitsOf, List.mem_flatMap] at hb
  obtain ⟨s, _, h⟩ := hb
  exact s.made_bin b h

theorem bitsOf_split (D : List Stp) {j : Nat} (h : j < D.length) : bitsOf D = bitsOf (D.take j) ++ D[j].made ++ bitsOf (D.drop (j + 1)) := by
  have e : D = D.take j ++ D[j] :: D.drop (j + 1) := by rw [← List.drop_eq_getElem_cons h, List.take_append_drop]
  have e2 := congrArg bitsOf e
  rw [e2]
  simp only [bitsOf, List.flatMap_append, List.flatMap_cons, List.append_assoc]
theorem bitsOf_take (D : List Stp) {j : Nat} (h : j < D.length) : bitsOf (D.take (j + 1)) = bitsOf (D.take j) ++ D[j].made := by
  rw [List.take_succ_eq_append_getElem h, bitsOf_snoc]

/-- How far a step that is done goes. -/
theorem made_ones {s : Stp} (ho : s.o = true) (hk : s.ok = true) : (s.made.length : Int) = s.n + (if s.n < s.d then 1 else 0) := by
  have h := hk
  rw [Stp.ok_ones ho] at h
  have h := of_decide_eq_true h
  unfold Stp.made
  rw [if_pos hk, if_pos ho, runs_len]
  split <;> split <;> omega
theorem made_plain {s : Stp} (ho : s.o = false) (hk : s.ok = true) : (s.made.length : Int) = s.d := by
  have h := hk
  rw [Stp.ok_plain ho] at h
  have h := of_decide_eq_true h
  unfold Stp.made
  rw [if_pos hk, if_neg (by simp [ho]), binw_len]
  omega
theorem ok_range {s : Stp} (hk : s.ok = true) : 0 ≤ s.d ∧ s.d ≤ 64 ∧ 0 ≤ s.n ∧ s.n ≤ 4294967296 := by
  unfold Stp.ok at hk
  split at hk
  · have h := of_decide_eq_true hk; omega
  · have h := of_decide_eq_true hk
    have : (2 : Int) ^ s.d.toNat ≤ 4294967296 := pow_le_32 (by omega)
    omega

theorem end_clean {bs : List Int} (hb : Bin bs) : en (bitAt (pack bs)) bs.length (8 * (pack bs).length - bs.length) = 0 := by
  unfold en
  rw [if_neg (by rw [pack_len]; omega), if_pos]
  intro i hi
  rw [bitAt_pack hb, getD_out (by omega)]

end Go.Proofs.Ytkmhdkeneggceaa
