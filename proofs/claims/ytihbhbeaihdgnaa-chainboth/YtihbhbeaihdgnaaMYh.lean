/-
  What is taken is harmless, plainly: each register lies in its span.
-/
import Derived.Test.YtihbhbeaihdgnaaMYA
namespace Go.Proofs.Vfy
open Go.RowKit Go.IntWalk Ytihbhbeaihdgnaa.Knd
open Ytihbhbeaihdgnaa (Wd wdA Fits inpV)
open Cde (In i0 agL arN okI okT mcB coL coZ vlI vlS vlF vaZ arV)
set_option linter.unusedVariables false

abbrev w32 (x : Int) : Prop := -2147483648 ≤ x ∧ x ≤ 2147483647
/-- Numbers that lie in spans, and have 32 bits. -/
def Inn (V : List Int) (S : Sps) : Prop := V.length = S.length ∧ ∀ i, i < S.length → (S.getD i (0, 0)).1 ≤ V.getD i 0 ∧ V.getD i 0 ≤ (S.getD i (0, 0)).2 ∧ w32 (V.getD i 0)
theorem Inn.snoc {V : List Int} {S : Sps} {x : Int} {p : Int × Int} (h : Inn V S) (h1 : p.1 ≤ x) (h2 : x ≤ p.2) (h3 : w32 x) : Inn (V ++ [x]) (S ++ [p]) := by
  have hl := h.1
  refine ⟨by simp [hl], fun i hi => ?_⟩
  simp only [List.length_append, List.length_cons, List.length_nil] at hi
  by_cases e : i < S.length
  · rw [getS_pre e, Cde.getD_pre (by omega)]
    exact h.2 i e
  · have e2 : i = S.length := by omega
    subst e2
    rw [show (S ++ [p]).getD S.length (0, 0) = p by simp [List.getD_eq_getElem?_getD], show (V ++ [x]).getD S.length 0 = x by rw [← hl]; simp [List.getD_eq_getElem?_getD]]
    exact ⟨h1, h2, h3⟩
theorem Inn.ins {V : List Int} {S : Sps} (h : Inn V S) : ∀ (P : List Int), (∀ p ∈ P, p.toNat < S.length) → Ytihbhbeaihdgnaa.Spn.Ins (P.map fun p => V.getD p.toNat 0) (P.map fun p => S.getD p.toNat (0, 0))
  | [], _ => trivial
  | p :: P, hp => by
    obtain ⟨h1, h2, -⟩ := h.2 p.toNat (hp p (by simp))
    exact ⟨⟨h1, h2⟩, Inn.ins h P fun q hq => hp q (by simp [hq])⟩
theorem kd_bounds (f d : Int) : w32 (lowZ f d) ∧ w32 (highZ f d) ∧ w32 (borderZ f d) := by
  rcases kind3 f d with ⟨hm, rfl⟩ | ⟨hm, rfl⟩ | hm
  · have := pw_le (d - 1) (by have := hm.2.2; omega)
    obtain ⟨a, b, c, -⟩ := zs0 hm
    rw [a, b, c]; unfold w32; omega
  · have := pw_le (d - 1) (by have := hm.2.2; omega)
    obtain ⟨a, b, c, -⟩ := zs1 hm
    rw [a, b, c]; unfold w32; omega
  · obtain ⟨a, b, c, -⟩ := zs2 hm
    rw [a, b, c]; unfold w32; omega
theorem val_w32 {op k s x : Int} {xs : List Int} (h : Ytihbhbeaihdgnaa.Spn.valZ op k s xs = (x, 0)) : w32 x := by
  unfold Ytihbhbeaihdgnaa.Spn.valZ at h
  split at h
  · split at h
    · split at h
      · rename_i hw
        cases h
        exact Ytihbhbeaihdgnaa.Spn.wd_iff.1 hw
      · cases h
    · rename_i h1
      exact absurd (congrArg Prod.snd h) h1
  · cases h
theorem col_row (f : Int) : colZ f ≤ 2147483647 ∧ rowZ f ≤ 2147483647 := by
  unfold colZ rowZ
  constructor <;> (repeat' split) <;> omega
theorem inp_in {f d k : Int} {v : Wd} (hm : May f d) (hF : Fits f d v) (h0 : 0 ≤ k) (h5 : k ≤ 5) : ((inZ f d k).getD (0, 0)).1 ≤ inpV f d v k ∧ inpV f d v k ≤ ((inZ f d k).getD (0, 0)).2 ∧ w32 (inpV f d v k) := by
  obtain ⟨⟨⟨⟨a1, a2, e1, g1, g2⟩, ⟨b1, b2, e2, g3, g4⟩⟩, ⟨c1, c2, e3, g5, g6⟩⟩, -⟩ := hF
  obtain ⟨w1, w2, w3⟩ := kd_bounds f d
  have hcr := col_row f
  rcases (show k = 0 ∨ k = 1 ∨ k = 2 ∨ k = 3 ∨ k = 4 ∨ k = 5 by omega) with rfl | rfl | rfl | rfl | rfl | rfl
  · rw [e1]
    have e : inZ f d 0 = some (0, colZ f - 1) := by unfold inZ; rw [if_neg (by simpa using hm)]; rfl
    rw [e] at e1
    cases e1
    exact ⟨g1, g2, by show w32 v.x; unfold w32; omega⟩
  · rw [e2]
    have e : inZ f d 1 = some (0, rowZ f - 1) := by unfold inZ; rw [if_neg (by simpa using hm)]; rfl
    rw [e] at e2
    cases e2
    exact ⟨g3, g4, by show w32 v.y; unfold w32; omega⟩
  · rw [e3]
    have e : inZ f d 2 = some (0, 3) := by unfold inZ; rw [if_neg (by simpa using hm)]; rfl
    rw [e] at e3
    cases e3
    exact ⟨g5, g6, by show w32 v.c; unfold w32; omega⟩
  · have e : inZ f d 3 = some (lowZ f d, lowZ f d) := by unfold inZ; rw [if_neg (by simpa using hm)]; rfl
    rw [e]; exact ⟨Int.le_refl _, Int.le_refl _, w1⟩
  · have e : inZ f d 4 = some (highZ f d, highZ f d) := by unfold inZ; rw [if_neg (by simpa using hm)]; rfl
    rw [e]; exact ⟨Int.le_refl _, Int.le_refl _, w2⟩
  · have e : inZ f d 5 = some (borderZ f d, borderZ f d) := by unfold inZ; rw [if_neg (by simpa using hm)]; rfl
    rw [e]; exact ⟨Int.le_refl _, Int.le_refl _, w3⟩

/-- One instruction: where its span is answered, it answers, and lies in it. -/
theorem vlI_in {f d : Int} {v : Wd} {V : List Int} {S : Sps} {n : In} (hm : May f d) (hF : Fits f d v) (hI : Inn V S) (ho : okI n S.length = true) (ha : ahI f d n = false) (h : (sgI f d S n).2 = 0) :
    (vlI f d v V n).2 = 0 ∧ (sgI f d S n).1.1 ≤ (vlI f d v V n).1 ∧ (vlI f d v V n).1 ≤ (sgI f d S n).1.2 ∧ w32 (vlI f d v V n).1 := by
  have hc := Cde.ok_con ho
  unfold vlI
  unfold sgI at h ⊢
  by_cases h1 : n.op = 1
  · rw [if_pos h1] at h ⊢
    rw [if_pos h1]
    rw [Cde.csB, if_pos h1, Bool.and_eq_true, Ytihbhbeaihdgnaa.Spn.wd_iff] at hc
    exact ⟨rfl, Int.le_refl _, Int.le_refl _, hc.1⟩
  rw [if_neg h1] at h ⊢
  rw [if_neg h1]
  by_cases h2 : n.op = 2
  · rw [if_pos h2] at h ⊢
    rw [if_pos h2]
    rw [Cde.csB, if_neg h1, if_pos h2, Bool.and_eq_true, Ytihbhbeaihdgnaa.Spn.inB_iff] at hc
    exact ⟨rfl, inp_in hm hF hc.1.1 hc.1.2⟩
  rw [if_neg h2] at h ⊢
  rw [if_neg h2]
  by_cases h3 : n.op = 3
  · rw [if_pos h3] at h ⊢
    rw [if_pos h3]
    rw [Cde.csB, if_neg h1, if_neg h2, if_pos h3, Bool.and_eq_true, Ytihbhbeaihdgnaa.Spn.inB_iff] at hc
    have hk : ¬ countZ f d ≤ n.k := by
      intro hk
      have : ahI f d n = true := by unfold ahI; rw [h3]; simpa using hk
      rw [this] at ha; cases ha
    rw [if_neg hk]
    have hfl := Cde.fit_len hF
    have hl : n.k.toNat < v.ps.length := by omega
    have hmem := hF.2.2 (v.ps.getD n.k.toNat 0) (Cde.getD_mem 0 hl)
    obtain ⟨w1, w2, -⟩ := kd_bounds f d
    exact ⟨rfl, hmem.1, hmem.2, by unfold w32 at *; dsimp only; omega⟩
  rw [if_neg h3] at h ⊢
  rw [if_neg h3]
  obtain ⟨x, h5, h6, h7⟩ := Ytihbhbeaihdgnaa.Spn.holds_all (Prod.ext rfl h : Ytihbhbeaihdgnaa.Spn.ofZ n.op n.k n.s (asS S n) = ((_, _), 0)) (hI.ins (agL n) fun p hp => (ag_reg ho hp).2)
  have e : Ytihbhbeaihdgnaa.Spn.valZ n.op n.k n.s (arV V n) = (x, 0) := h5
  rw [e]
  exact ⟨rfl, h6, h7, val_w32 h5⟩
theorem any_take {f d : Int} {L : List In} (h : L.any (ahI f d) = false) {k : Nat} (hk : k < L.length) : ahI f d (L.getD k i0) = false := by
  cases hb : ahI f d (L.getD k i0)
  · rfl
  · rw [ah_of hk hb] at h; cases h
/-- All of them. -/
theorem vlF_in {f d : Int} {v : Wd} {L : List In} (hm : May f d) (hF : Fits f d v) (hok : okT L L.length = true) (ha : L.any (ahI f d) = false) (h0 : (sgF f d L).1 = 0) :
    ∀ k, k ≤ L.length → ∃ V S, vlF f d v (L.take k) = (0, V) ∧ sgF f d (L.take k) = (0, S) ∧ Inn V S
  | 0, _ => ⟨[], [], rfl, rfl, rfl, fun i hi => by simp at hi⟩
  | k + 1, hk => by
    obtain ⟨V, S, h1, h2, h3⟩ := vlF_in hm hF hok ha h0 k (by omega)
    have hl : S.length = k := by
      have := sgF_len f d L k (by omega)
      rw [h2] at this
      exact this rfl
    have ho := Cde.okT_at hok (show k < L.length by omega)
    rw [← hl] at ho
    have hz : (sgI f d S (L.getD k i0)).2 = 0 := by
      by_cases hz : (sgI f d S (L.getD k i0)).2 = 0
      · exact hz
      · have e : sgF f d (L.take (k + 1)) = ((sgI f d S (L.getD k i0)).2, []) := by
          rw [Cde.take_snoc i0 (by omega), sgF_snoc, h2, sgS, if_pos rfl, if_neg hz]
        have := sgF_bad e hz
        rw [this] at h0
        exact absurd h0 hz
    rw [hl] at ho
    obtain ⟨a, b, c, e⟩ := vlI_in hm hF h3 (by rw [hl]; exact ho) (any_take ha (by omega)) hz
    refine ⟨V ++ [(vlI f d v V (L.getD k i0)).1], S ++ [(sgI f d S (L.getD k i0)).1], ?_, ?_, h3.snoc b c e⟩
    · rw [Cde.take_snoc i0 (by omega), Cde.vlF_snoc, h1, vlS, if_pos rfl, if_pos a]
    · rw [Cde.take_snoc i0 (by omega), sgF_snoc, h2, sgS, if_pos rfl, if_pos hz]
theorem co_pos {n : In} {i : Nat} (h : okI n i = true) : 1 ≤ coZ n.op := by
  have h4 : n.op ≠ 4 := by
    intro e
    have := Cde.ok_ar h
    rw [e] at this
    exact absurd this (by decide)
  unfold coZ
  rw [if_neg h4]
  repeat' split
  all_goals omega
theorem co_ge {L : List In} (hok : okT L L.length = true) : ∀ k : Nat, k ≤ L.length → (k : Int) ≤ coL (L.take k)
  | 0, _ => by simp [coL]
  | k + 1, hk => by
    have ih := co_ge hok k (by omega)
    have := co_pos (Cde.okT_at hok (show k < L.length by omega))
    rw [Cde.take_snoc i0 (by omega), Cde.coL_snoc]
    omega
/-- What is taken is harmless. -/
theorem vf_holds {f d : Int} {L : List In} {out : Int} (h : vfE f d L out = 0) : (L.length : Int) ≤ coL L ∧ coL L ≤ 200 ∧ ∀ v : Wd, Fits f d v → ∃ V, vaZ f d v L out = (0, V) ∧ Inn V (vfS f d L out) := by
  obtain ⟨m, ha, ⟨S, hS, hl, hs⟩, hc, -, -⟩ := vf_parts h
  obtain ⟨hm, -, -, -, -, hok⟩ := Cde.mc_parts m
  refine ⟨?_, hc, fun v hF => ?_⟩
  · have := co_ge hok L.length (Nat.le_refl _)
    rwa [List.take_length] at this
  · obtain ⟨V, S', h1, h2, h3⟩ := vlF_in hm hF hok ha (by rw [hS]) L.length (Nat.le_refl _)
    rw [List.take_length] at h1 h2
    rw [hS] at h2
    cases h2
    refine ⟨V, ?_, by rw [hs]; exact h3⟩
    rw [vaZ, if_pos m, if_pos hF]
    exact h1
theorem va_unfit {f d : Int} {L : List In} {out : Int} {v : Wd} (h : vfE f d L out = 0) (hF : ¬ Fits f d v) : vaZ f d v L out = (1, []) := by
  obtain ⟨m, -⟩ := vf_parts h
  rw [vaZ, if_pos m, if_neg hF]

end Go.Proofs.Vfy
