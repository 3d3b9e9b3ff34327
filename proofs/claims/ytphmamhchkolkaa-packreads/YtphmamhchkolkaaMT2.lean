/-
  Pack, plainly (ahead of the code): how long the bytes are; what Decode answers of them, whole, cut and with more behind.
-/
import Derived.Test.YtphmamhchkolkaaMT1
namespace Go.Proofs.Pck
open Go.RowKit Go.IntWalk
open Ytphmamhchkolkaa.Oct (vb vint lim scn scan pw rdU rdI zz uz)
open Cde (In i0 agL arN okI okT mcB csB rgN rgs rgB)
set_option linter.unusedVariables false

/-! ## How long -/
theorem vint_two {x : Int} (h : x < 16384) : (vint x).length ≤ 2 := by
  unfold vint
  by_cases h1 : x < 128
  · rw [Ytphmamhchkolkaa.Oct.vb_last _ _ h1]; simp
  · rw [Ytphmamhchkolkaa.Oct.vb_more _ _ (by omega), Ytphmamhchkolkaa.Oct.vb_last _ _ (by omega)]; simp
theorem enA_len {b : Bool} {i : Nat} {r : Int} (h : rgB r b i = true) (hi : i ≤ 1000) : (enA b i r).length ≤ 2 := by
  unfold rgB at h
  unfold enA
  cases b with
  | false => simp
  | true =>
    simp only [if_true, Ytphmamhchkolkaa.Spn.inB_iff] at h ⊢
    exact vint_two (by omega)
theorem enK_len (n : In) : (enK n).length ≤ 11 := by
  have h1 := (Ytphmamhchkolkaa.Oct.vint_len (zz n.k)).2
  have h2 := (Ytphmamhchkolkaa.Oct.vint_len n.k).2
  unfold enK
  repeat' split
  all_goals simp
  all_goals omega
theorem enI_len {n : In} {i : Nat} (h : okI n i = true) (hi : i ≤ 1000) : 1 ≤ (enI i n).length ∧ (enI i n).length ≤ 18 := by
  simp only [okI, rgs, Bool.and_eq_true] at h
  obtain ⟨⟨-, ⟨ha, hb⟩, hcc⟩, -⟩ := h
  have a1 := enA_len ha hi
  have a2 := enA_len hb hi
  have a3 := enA_len hcc hi
  have a4 := enK_len n
  simp only [enI, u0, u1, u2, List.length_append, List.length_singleton]
  omega
theorem enS_len {L : List In} (h : okT L L.length = true) (hl : L.length ≤ 200) : ∀ k, k ≤ L.length → k ≤ (enS L k).length ∧ (enS L k).length ≤ 18 * k
  | 0, _ => by simp [enS]
  | k + 1, hk => by
    have ih := enS_len h hl k (by omega)
    have := enI_len (Cde.okT_at h (show k < L.length by omega)) (by omega)
    rw [enS_succ, List.length_append]
    omega
theorem enC_len {f d : Int} {L : List In} {out : Int} (h : mcB f d L out = true) : 6 ≤ (enC f d L out).length ∧ (enC f d L out).length ≤ 4096 := by
  obtain ⟨-, h1, h2, h3, h4, ho⟩ := Cde.mc_parts h
  have a1 := enS_len ho (by omega) L.length (Nat.le_refl _)
  have a2 := Ytphmamhchkolkaa.Oct.vint_len (L.length : Int)
  have a3 := Ytphmamhchkolkaa.Oct.vint_len ((L.length : Int) - 1 - out)
  simp only [enC, List.length_append, List.length_singleton]
  omega

/-! ## Bytes -/
theorem Byts.app {a b : List Int} (h : Byts a) (g : Byts b) : Byts (a ++ b) := fun c hc => by
  rcases List.mem_append.1 hc with hc | hc
  · exact h c hc
  · exact g c hc
theorem Byts.one {x : Int} (h0 : 0 ≤ x) (h1 : x ≤ 255) : Byts [x] := fun c hc => by rw [List.mem_singleton] at hc; subst hc; exact ⟨h0, h1⟩
theorem Byts.nil : Byts [] := fun c hc => by simp at hc
theorem Byts.vint {x : Int} (h0 : 0 ≤ x) (h1 : x < 18446744073709551616) : Byts (vint x) := Ytphmamhchkolkaa.Oct.vint_byte x h0 h1
theorem enA_byt {b : Bool} {i : Nat} {r : Int} (h : rgB r b i = true) (hi : i ≤ 1000) : Byts (enA b i r) := by
  unfold rgB at h
  unfold enA
  cases b with
  | false => exact Byts.nil
  | true =>
    simp only [if_true, Ytphmamhchkolkaa.Spn.inB_iff] at h ⊢
    exact Byts.vint (by omega) (by omega)
theorem enK_byt {n : In} (h : csB n = true) : Byts (enK n) := by
  rcases hw_cases h with ⟨e, a, b, c⟩ | ⟨e, a, b, c⟩ | ⟨e, a, b, c⟩ | ⟨e, a, b, c, d⟩ | ⟨e, a, b⟩
  · rw [show enK n = vint (zz n.k) by simp [enK, e]]
    obtain ⟨z0, z1⟩ := Ytphmamhchkolkaa.Oct.zz_range n.k (by omega) (by omega)
    exact Byts.vint z0 z1
  · rw [show enK n = [n.k] by simp [enK, e]]; exact Byts.one a b
  · rw [show enK n = vint n.k by simp [enK, e]]; exact Byts.vint a (by omega)
  · rw [show enK n = vint n.k ++ [n.s] by simp [enK, e]]; exact (Byts.vint a (by omega)).app (Byts.one c (by omega))
  · rw [show enK n = [] by simp [enK, e]]; exact Byts.nil
theorem op_byt {n : In} (h : 0 ≤ Ytphmamhchkolkaa.Spn.ar n.op) : 0 ≤ n.op ∧ n.op ≤ 33 := by
  unfold Ytphmamhchkolkaa.Spn.ar at h
  by_cases h1 : n.op = 1 ∨ n.op = 2 ∨ n.op = 3
  · omega
  rw [if_neg h1] at h
  by_cases h2 : Ytphmamhchkolkaa.Spn.inB n.op 5 7 = true ∨ Ytphmamhchkolkaa.Spn.inB n.op 29 33 = true
  · rw [Ytphmamhchkolkaa.Spn.inB_iff, Ytphmamhchkolkaa.Spn.inB_iff] at h2; omega
  rw [if_neg h2] at h
  by_cases h3 : Ytphmamhchkolkaa.Spn.inB n.op 8 25 = true
  · rw [Ytphmamhchkolkaa.Spn.inB_iff] at h3; omega
  rw [if_neg h3] at h
  by_cases h4 : Ytphmamhchkolkaa.Spn.inB n.op 26 28 = true
  · rw [Ytphmamhchkolkaa.Spn.inB_iff] at h4; omega
  rw [if_neg h4] at h
  omega
theorem enI_byt {n : In} {i : Nat} (h : okI n i = true) (hi : i ≤ 1000) : Byts (enI i n) := by
  have hc := Cde.ok_con h
  have ha' := Cde.ok_ar h
  simp only [okI, rgs, Bool.and_eq_true] at h
  obtain ⟨⟨-, ⟨ha, hb⟩, hcc⟩, -⟩ := h
  obtain ⟨o1, o2⟩ := op_byt ha'
  unfold enI
  exact (Byts.one o1 (by omega)).app ((enA_byt ha hi).app ((enA_byt hb hi).app ((enA_byt hcc hi).app (enK_byt hc))))
theorem enS_byt {L : List In} (h : okT L L.length = true) (hl : L.length ≤ 200) : ∀ k, k ≤ L.length → Byts (enS L k)
  | 0, _ => by simpa [enS] using Byts.nil
  | k + 1, hk => by
    rw [enS_succ]
    exact (enS_byt h hl k (by omega)).app (enI_byt (Cde.okT_at h (by omega)) (by omega))

/-! ## What Decode answers -/
theorem de_back {f d : Int} {L : List In} {out : Int} (h : mcB f d L out = true) : deC (enC f d L out) = (0, (f, d, L, out)) := by
  have e := (wr_code h).all []
  rw [List.append_nil] at e
  have hl := (enC_len h).2
  unfold deC
  rw [if_neg (by omega), e]
  simp [h]
theorem de_one {zs : List Int} {c : C4} (hb : Byts zs) (h : deC zs = (0, c)) : zs = enC c.1 c.2.1 c.2.2.1 c.2.2.2 ∧ mcB c.1 c.2.1 c.2.2.1 c.2.2.2 = true := by
  unfold deC at h
  split at h
  · simp at h
  split at h
  · rename_i h1 h2
    simp only [Prod.mk.injEq] at h
    exact absurd h.1 h2
  rename_i h1 h2
  split at h
  · simp at h
  rename_i h3
  split at h
  · rename_i h4
    simp only [Prod.mk.injEq, true_and] at h
    have e : coD zs = (0, c, []) := by
      have e1 : (coD zs).1 = 0 := by simpa using h2
      have e2 : (coD zs).2.2 = [] := by simpa using h3
      rw [← e1, ← e2, ← h]
    rw [h] at h4
    refine ⟨?_, h4⟩
    obtain ⟨f, d, L, out⟩ := c
    have := code_one hb e
    rw [List.append_nil] at this
    exact this
  · simp at h
theorem de_cut {f d : Int} {L : List In} {out : Int} (h : mcB f d L out = true) {u v : List Int} (huv : u ++ v = enC f d L out) (hv : v ≠ []) : deC u = (2, c0) := by
  have e := (wr_code h).cut u v huv hv
  have hl := (enC_len h).2
  rw [← huv, List.length_append] at hl
  unfold deC
  rw [if_neg (by omega), if_pos (by rw [e]; decide), e]
theorem de_tail {f d : Int} {L : List In} {out : Int} (h : mcB f d L out = true) {v : List Int} (hv : v ≠ []) : deC (enC f d L out ++ v) = if 4096 < (enC f d L out).length + v.length then (4, c0) else (5, c0) := by
  have e := (wr_code h).all v
  unfold deC
  rw [List.length_append, e]
  split
  · rfl
  · rw [if_neg (by simp)]
/-- What is refused has the zero code beside it. -/
theorem de_zero {zs : List Int} (h : (deC zs).1 ≠ 0) : (deC zs).2 = c0 := by
  unfold deC at h ⊢
  split
  · rfl
  · split
    · rfl
    · split
      · rfl
      · split
        · rename_i h1 h2 h3 h4
          rw [if_neg h1, if_neg h2, if_neg h3, if_pos h4] at h
          exact absurd rfl h
        · rfl

end Go.Proofs.Pck
