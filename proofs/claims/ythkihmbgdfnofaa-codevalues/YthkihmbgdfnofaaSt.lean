/-
  What every register is, plainly: an operator's answer of those that it reads, or its number, its input, its place; all of 32 bits.
-/
import Derived.Test.YthkihmbgdfnofaaCutW
namespace Go.Proofs.Ythkihmbgdfnofaa
open Knd
set_option linter.unusedVariables false

theorem ar_zero {op : Int} (h : Spn.ar op = 0) : op = 1 ∨ op = 2 ∨ op = 3 := by
  unfold Spn.ar at h
  split at h
  · assumption
  · split at h
    · omega
    · split at h
      · omega
      · split at h <;> omega
theorem vlF_nil {f d : Int} {v : Wd} {L : List In} (h : (vlF f d v L).1 ≠ 0) : (vlF f d v L).2 = [] := by
  have key : ∀ k, k ≤ L.length → (vlF f d v (L.take k)).1 ≠ 0 → (vlF f d v (L.take k)).2 = [] := by
    intro k
    induction k with
    | zero => intro _ h; simp [vlF] at h
    | succ k ih =>
      intro hk h
      rw [take_snoc i0 (by omega), vlF_snoc] at h ⊢
      unfold vlS at h ⊢
      split
      · rename_i h0
        rw [if_pos h0] at h
        split
        · rename_i h1
          rw [if_pos h1] at h
          exact absurd rfl h
        · rfl
      · rename_i h0
        exact ih (by omega) h0
  have := key L.length (Nat.le_refl _)
  rw [List.take_length] at this
  exact this h
theorem va_mc {f d out : Int} {v : Wd} {L : List In} {D : List Int} (h : vaZ f d v L out = (0, D)) : mcB f d L out = true ∧ Fits f d v ∧ vlF f d v L = (0, D) := by
  unfold vaZ at h
  split at h
  · rename_i hm
    split at h
    · rename_i hF
      exact ⟨hm, hF, h⟩
    · simp at h
  · simp at h
theorem va_at {f d out : Int} {v : Wd} {L : List In} {D : List Int} (h : vaZ f d v L out = (0, D)) {k : Nat} (hk : k < L.length) :
    D.length = L.length ∧ okI (L.getD k i0) k = true ∧ vlI f d v D (L.getD k i0) = (D.getD k 0, 0) := by
  obtain ⟨hm, hF, hv⟩ := va_mc h
  obtain ⟨-, -, -, -, -, hok⟩ := mc_parts hm
  have hL := vlF_len f d v L L.length (Nat.le_refl _)
  rw [List.take_length, hv] at hL
  have hl := hL rfl
  simp only at hl
  have ho := okT_at hok hk
  refine ⟨hl, ho, ?_⟩
  have h1 := vlF_take (f := f) (d := d) (v := v) (L := L) (L.length - k) k D (by omega) (by rw [show k + (L.length - k) = L.length by omega, List.take_length]; exact hv)
  have h2 := vlF_take (f := f) (d := d) (v := v) (L := L) (L.length - (k + 1)) (k + 1) D (by omega) (by rw [show k + 1 + (L.length - (k + 1)) = L.length by omega, List.take_length]; exact hv)
  rw [take_snoc i0 hk, vlF_snoc, h1] at h2
  have hlt : (D.take k).length = k := by rw [List.length_take]; omega
  have e : vlI f d v D (L.getD k i0) = vlI f d v (D.take k) (L.getD k i0) := by
    have := vlI_pre (f := f) (d := d) (v := v) (D := D.take k) (Z := D.drop k) (n := L.getD k i0) (by rw [hlt]; exact ho)
    rwa [List.take_append_drop] at this
  rw [e]
  unfold vlS at h2
  rw [if_pos rfl, take_snoc 0 (by omega)] at h2
  split at h2
  · rename_i h3
    simp only [Prod.mk.injEq, true_and] at h2
    have h4 := List.append_inj_right h2 rfl
    simp only [List.cons.injEq, and_true] at h4
    exact Prod.ext h4 h3
  · rename_i h3
    simp only [Prod.mk.injEq] at h2
    exact absurd h2.1 h3

theorem bounds_of {f d : Int} (hm : May f d) : -65536 ≤ lowZ f d ∧ lowZ f d ≤ 65536 ∧ -65536 ≤ highZ f d ∧ highZ f d ≤ 131072 ∧ 0 ≤ borderZ f d ∧ borderZ f d ≤ 65536 := by
  have hd := hm.2
  have hp := pw_le (d - 1) (by omega)
  rcases hm.1 with rfl | rfl
  · obtain ⟨h1, h2, h3, -⟩ := zs0 hm
    rw [h1, h2, h3]
    omega
  · obtain ⟨h1, h2, h3, -⟩ := zs1 hm
    rw [h1, h2, h3]
    omega
theorem fit_may {f d : Int} {v : Wd} (h : Fits f d v) : May f d := by
  obtain ⟨lo, hi, hz, -⟩ := h.1.1.1
  exact Classical.byContradiction fun h' => by simp [inZ, h'] at hz
/-- An input lies where the kind says. -/
theorem inp_lies {f d k : Int} {v : Wd} (h : Fits f d v) (h0 : 0 ≤ k) (h5 : k ≤ 5) : ∃ lo hi, inZ f d k = some (lo, hi) ∧ lo ≤ inpV f d v k ∧ inpV f d v k ≤ hi ∧ -2147483648 ≤ lo ∧ hi ≤ 2147483647 := by
  have hm := fit_may h
  have hb := bounds_of hm
  obtain ⟨⟨⟨⟨l0, u0, z0, b0⟩, ⟨l1, u1, z1, b1⟩⟩, ⟨l2, u2, z2, b2⟩⟩, -⟩ := h
  have hc : colZ f ≤ 1048576 := by unfold colZ; split <;> omega
  have hr : rowZ f ≤ 4096 := by unfold rowZ; split <;> omega
  rcases (show k = 0 ∨ k = 1 ∨ k = 2 ∨ k = 3 ∨ k = 4 ∨ k = 5 by omega) with rfl | rfl | rfl | rfl | rfl | rfl
  · have z := z0
    simp [inZ, hm] at z
    exact ⟨l0, u0, z0, by simp [inpV]; omega, by simp [inpV]; omega, by omega, by omega⟩
  · have z := z1
    simp [inZ, hm] at z
    exact ⟨l1, u1, z1, by simp [inpV]; omega, by simp [inpV]; omega, by omega, by omega⟩
  · have z := z2
    simp [inZ, hm] at z
    exact ⟨l2, u2, z2, by simp [inpV]; omega, by simp [inpV]; omega, by omega, by omega⟩
  · exact ⟨lowZ f d, lowZ f d, by simp [inZ, hm], by simp [inpV], by simp [inpV], by omega, by omega⟩
  · exact ⟨highZ f d, highZ f d, by simp [inZ, hm], by simp [inpV], by simp [inpV], by omega, by omega⟩
  · exact ⟨borderZ f d, borderZ f d, by simp [inZ, hm], by simp [inpV], by simp [inpV], by omega, by omega⟩
theorem cs_num {n : In} (h : csB n = true) (h1 : n.op = 1) : Spn.wd n.k = true := by
  rw [csB, if_pos h1, Bool.and_eq_true] at h
  exact h.1
theorem cs_in {n : In} (h : csB n = true) (h2 : n.op = 2) : 0 ≤ n.k ∧ n.k ≤ 5 := by
  rw [csB, if_neg (by omega), if_pos h2, Bool.and_eq_true, Spn.inB_iff] at h
  exact h.1
theorem cs_place {n : In} (h : csB n = true) (h3 : n.op = 3) : 0 ≤ n.k ∧ n.k ≤ 255 := by
  rw [csB, if_neg (by omega), if_neg (by omega), if_pos h3, Bool.and_eq_true, Spn.inB_iff] at h
  exact h.1
/-- A register comes to a number of 32 bits. -/
theorem vl_word {f d : Int} {v : Wd} {V : List Int} {n : In} {i : Nat} {x : Int} (hF : Fits f d v) (ho : okI n i = true) (h : vlI f d v V n = (x, 0)) : Spn.wd x = true := by
  have hc := ok_con ho
  unfold vlI at h
  split at h
  · rename_i h1
    simp only [Prod.mk.injEq, and_true] at h
    rw [← h]
    exact cs_num hc h1
  · split at h
    · rename_i h2
      simp only [Prod.mk.injEq, and_true] at h
      obtain ⟨k0, k5⟩ := cs_in hc h2
      obtain ⟨lo, hi, -, b1, b2, b3, b4⟩ := inp_lies hF k0 k5
      rw [Spn.wd_iff]
      omega
    · split at h
      · rename_i h3
        obtain ⟨k0, k5⟩ := cs_place hc h3
        split at h
        · simp at h
        · rename_i h4
          simp only [Prod.mk.injEq, and_true] at h
          have hm := bounds_of (fit_may hF)
          have hl := fit_len hF
          have := hF.2.2 _ (getD_mem 0 (L := v.ps) (k := n.k.toNat) (by omega))
          rw [h] at this
          rw [Spn.wd_iff]
          omega
      · unfold Spn.valZ at h
        split at h
        · split at h
          · split at h
            · rename_i h5
              simp only [Prod.mk.injEq, and_true] at h
              rw [← h]
              exact h5
            · simp at h
          · rename_i h6
            simp only [Prod.mk.injEq] at h
            exact absurd h.2 h6
        · simp at h

end Go.Proofs.Ythkihmbgdfnofaa
