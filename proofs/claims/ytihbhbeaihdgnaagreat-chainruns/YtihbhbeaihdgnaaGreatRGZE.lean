/-
  Verify, plainly: the registers' spans, the report or the refusal.
-/
import Derived.Test.YtihbhbeaihdgnaaGreatRGZB
import Derived.Test.YtihbhbeaihdgnaaGreatRGM
import Derived.Test.YtihbhbeaihdgnaaGreatRGA
import Derived.Laws.MakeOwn
import Derived.Deep.RegionHeld3
namespace Go.Proofs.Vfy
open Go.RowKit Go.IntWalk YtihbhbeaihdgnaaGreat.Knd
open Cde (In i0 agL arN okI okT mcB coL coZ)
set_option linter.unusedVariables false

abbrev Sps := List (Int × Int)
/-- The spans that an instruction reads. -/
def asS (S : Sps) (n : In) : Sps := (agL n).map fun r => S.getD r.toNat (0, 0)
/-- A register's span, by those ahead of it; the error beside it. -/
def sgI (f d : Int) (S : Sps) (n : In) : (Int × Int) × Int :=
  if n.op = 1 then ((n.k, n.k), 0) else if n.op = 2 then ((inZ f d n.k).getD (0, 0), 0) else if n.op = 3 then ((lowZ f d, highZ f d), 0) else YtihbhbeaihdgnaaGreat.Spn.ofZ n.op n.k n.s (asS S n)
/-- One step, and all of them: the error, and what came out ahead of it. -/
def sgS (f d : Int) (s : Int × Sps) (n : In) : Int × Sps :=
  if s.1 = 0 then (if (sgI f d s.2 n).2 = 0 then (0, s.2 ++ [(sgI f d s.2 n).1]) else ((sgI f d s.2 n).2, [])) else s
def sgF (f d : Int) (L : List In) : Int × Sps := L.foldl (sgS f d) (0, [])
theorem sgF_snoc (f d : Int) (L : List In) (n : In) : sgF f d (L ++ [n]) = sgS f d (sgF f d L) n := by simp [sgF]
theorem sgF_stuck (f d : Int) : ∀ (L : List In) (s : Int × Sps), s.1 ≠ 0 → L.foldl (sgS f d) s = s
  | [], s, h => rfl
  | n :: L, s, h => by
    rw [List.foldl_cons, show sgS f d s n = s by rw [sgS, if_neg h]]
    exact sgF_stuck f d L s h
theorem sgF_app (f d : Int) (A B : List In) : sgF f d (A ++ B) = B.foldl (sgS f d) (sgF f d A) := by rw [sgF, List.foldl_append]; rfl
theorem sgF_bad {f d : Int} {L : List In} {k : Nat} {e : Int × Sps} (h : sgF f d (L.take k) = e) (he : e.1 ≠ 0) : sgF f d L = e := by
  have : sgF f d L = (L.drop k).foldl (sgS f d) (sgF f d (L.take k)) := by
    rw [← sgF_app, List.take_append_drop]
  rw [this, h, sgF_stuck f d _ _ he]
theorem sgF_len (f d : Int) (L : List In) : ∀ k, k ≤ L.length → (sgF f d (L.take k)).1 = 0 → (sgF f d (L.take k)).2.length = k
  | 0, _, _ => by simp [sgF]
  | k + 1, h, he => by
    have ih := sgF_len f d L k (by omega)
    rw [Cde.take_snoc i0 (by omega), sgF_snoc] at he ⊢
    unfold sgS at he ⊢
    split at he
    · rename_i h0
      rw [if_pos h0]
      split at he
      · rename_i h1
        rw [if_pos h1]
        simp [ih h0]
      · rename_i h1
        exact absurd he h1
    · rename_i h0
      exact absurd he h0
theorem sgF_all {f d : Int} {L : List In} {S : Sps} (h : sgF f d L = (0, S)) : S.length = L.length := by
  have := sgF_len f d L L.length (Nat.le_refl _)
  rw [List.take_length, h] at this
  exact this rfl
theorem getS_pre {S Z : Sps} {i : Nat} (h : i < S.length) : (S ++ Z).getD i (0, 0) = S.getD i (0, 0) := by
  rw [List.getD_eq_getElem?_getD, List.getElem?_append_left h, ← List.getD_eq_getElem?_getD]
theorem ag_reg {n : In} {i : Nat} (h : okI n i = true) {r : Int} (hr : r ∈ agL n) : 0 ≤ r ∧ r.toNat < i := by
  obtain ⟨j, hj, rfl⟩ := List.getElem_of_mem hr
  rw [Cde.agL_len] at hj
  have := Cde.ok_reg h hj
  rw [← Cde.agL_at n j hj, List.getD_eq_getElem?_getD, List.getElem?_eq_getElem (by rw [Cde.agL_len]; exact hj)] at this
  exact this
theorem asS_pre {S Z : Sps} {n : In} (h : okI n S.length = true) : asS (S ++ Z) n = asS S n := by
  unfold asS
  apply List.map_congr_left
  intro r hr
  exact getS_pre (ag_reg h hr).2
theorem sgI_pre {f d : Int} {S Z : Sps} {n : In} (h : okI n S.length = true) : sgI f d (S ++ Z) n = sgI f d S n := by
  rw [sgI, sgI, asS_pre h]

/-- An instruction that looks at a place that the kind hasn't. -/
def ahI (f d : Int) (n : In) : Bool := n.op == 3 && decide (countZ f d ≤ n.k)
theorem ah_snoc {f d : Int} {L : List In} {k : Nat} (hk : k < L.length) (h : (L.take k).any (ahI f d) = false) (h2 : ahI f d (L.getD k i0) = false) : (L.take (k + 1)).any (ahI f d) = false := by
  rw [Cde.take_snoc i0 hk, List.any_append, h, List.any_cons, h2]; rfl
theorem ah_of {f d : Int} {L : List In} {k : Nat} (hk : k < L.length) (h2 : ahI f d (L.getD k i0) = true) : L.any (ahI f d) = true := by
  rw [List.any_eq_true]
  exact ⟨L.getD k i0, Cde.getD_mem i0 hk, h2⟩
/-- Why the code may not be looked at: it may not be, or it looks ahead. -/
def myE (f d : Int) (L : List In) (out : Int) : Int := if mcB f d L out = true then (if L.any (ahI f d) = true then 11 else 0) else 15
/-- What Verify answers: the error. -/
def vfE (f d : Int) (L : List In) (out : Int) : Int :=
  if myE f d L out ≠ 0 then myE f d L out else if (sgF f d L).1 ≠ 0 then (sgF f d L).1 else if 200 < coL L then 14 else 0
def vfN (f d : Int) (L : List In) (out : Int) : Nat := if vfE f d L out = 0 then L.length else 0
def vfC (f d : Int) (L : List In) (out : Int) : Int := if vfE f d L out = 0 then coL L else 0
def vfS (f d : Int) (L : List In) (out : Int) : Sps := if vfE f d L out = 0 then (sgF f d L).2 else []
theorem my_zero {f d : Int} {L : List In} {out : Int} : myE f d L out = 0 ↔ mcB f d L out = true ∧ L.any (ahI f d) = false := by
  unfold myE
  constructor
  · intro h
    split at h
    · rename_i h1
      split at h
      · omega
      · rename_i h2
        exact ⟨h1, by simpa using h2⟩
    · omega
  · rintro ⟨h1, h2⟩
    rw [if_pos h1, if_neg (by simp [h2])]
theorem vf_zero {f d : Int} {L : List In} {out : Int} : vfE f d L out = 0 ↔ myE f d L out = 0 ∧ (sgF f d L).1 = 0 ∧ coL L ≤ 200 := by
  unfold vfE
  constructor
  · intro h
    split at h
    · rename_i h1; exact absurd h h1
    · rename_i h1
      split at h
      · rename_i h2; exact absurd h h2
      · rename_i h2
        split at h
        · omega
        · exact ⟨by simpa using h1, by simpa using h2, by omega⟩
  · rintro ⟨h1, h2, h3⟩
    rw [if_neg (by simpa using h1), if_neg (by simpa using h2), if_neg (by omega)]
theorem vf_parts {f d : Int} {L : List In} {out : Int} (h : vfE f d L out = 0) : mcB f d L out = true ∧ L.any (ahI f d) = false ∧ (∃ S, sgF f d L = (0, S) ∧ S.length = L.length ∧ vfS f d L out = S) ∧ coL L ≤ 200 ∧ vfN f d L out = L.length ∧ vfC f d L out = coL L := by
  obtain ⟨h1, h2, h3⟩ := vf_zero.1 h
  obtain ⟨h4, h5⟩ := my_zero.1 h1
  have e : sgF f d L = (0, (sgF f d L).2) := Prod.ext h2 rfl
  exact ⟨h4, h5, ⟨_, e, sgF_all e, by rw [vfS, if_pos h]⟩, h3, by rw [vfN, if_pos h], by rw [vfC, if_pos h]⟩
theorem vf_none {f d : Int} {L : List In} {out : Int} (h : vfE f d L out ≠ 0) : vfN f d L out = 0 ∧ vfC f d L out = 0 ∧ vfS f d L out = [] := by
  refine ⟨by rw [vfN, if_neg h], by rw [vfC, if_neg h], by rw [vfS, if_neg h]⟩
theorem vfS_len (f d : Int) (L : List In) (out : Int) : (vfS f d L out).length = vfN f d L out := by
  by_cases h : vfE f d L out = 0
  · obtain ⟨-, -, ⟨S, -, hl, hs⟩, -, hn, -⟩ := vf_parts h
    rw [hs, hn, hl]
  · obtain ⟨h1, -, h3⟩ := vf_none h
    rw [h1, h3]; rfl
theorem vfN_few (f d : Int) (L : List In) (out : Int) : vfN f d L out ≤ 200 := by
  by_cases h : vfE f d L out = 0
  · obtain ⟨h1, -, -, -, hn, -⟩ := vf_parts h
    obtain ⟨-, -, h2, -⟩ := Cde.mc_parts h1
    rw [hn]; exact h2
  · rw [(vf_none h).1]; omega

end Go.Proofs.Vfy

/-
  What is taken is harmless, plainly: each register lies in its span.
-/
namespace Go.Proofs.Vfy
open Go.RowKit Go.IntWalk YtihbhbeaihdgnaaGreat.Knd
open YtihbhbeaihdgnaaGreat (Wd wdA Fits inpV)
open Cde (In i0 agL arN okI okT mcB coL coZ vlI vlS vlF vaZ arV)
set_option linter.unusedVariables false

abbrev w32 (x : Int) : Prop := -2147483648 ≤ x ∧ x ≤ 2147483647
/-- Numbers that lie in spans, and have 32 bits. -/
def Inn (V : List Int) (S : Sps) : Prop := V.length = S.length ∧ ∀ i, i < S.length → (S.getD i (0, 0)).1 ≤ V.getD i 0 ∧ V.getD i 0 ≤ (S.getD i (0, 0)).2 ∧ w32 (V.getD i 0)
theorem Inn.snoc {V : List Int} {S : Sps} {x : Int} {p : Int × Int} (h : Inn V S) (h1 : p.1 ≤ x) (h2 : x ≤ p.2) (h3 : w32 x) : Inn (V ++ [x]) (S ++ [p]) := by
  have hl := h.1
  refine ⟨by simp [hl], fun i hi => ?_⟩
  simp only [List.length_append, List.length_cons, List.length_nil] at hi
  by_cases e : i < S.length
  · rw [getS_pre e, Cde.getD_pre (by omega)]
    exact h.2 i e
  · have e2 : i = S.length := by omega
    subst e2
    rw [show (S ++ [p]).getD S.length (0, 0) = p by simp [List.getD_eq_getElem?_getD], show (V ++ [x]).getD S.length 0 = x by rw [← hl]; simp [List.getD_eq_getElem?_getD]]
    exact ⟨h1, h2, h3⟩
theorem Inn.ins {V : List Int} {S : Sps} (h : Inn V S) : ∀ (P : List Int), (∀ p ∈ P, p.toNat < S.length) → YtihbhbeaihdgnaaGreat.Spn.Ins (P.map fun p => V.getD p.toNat 0) (P.map fun p => S.getD p.toNat (0, 0))
  | [], _ => trivial
  | p :: P, hp => by
    obtain ⟨h1, h2, -⟩ := h.2 p.toNat (hp p (by simp))
    exact ⟨⟨h1, h2⟩, Inn.ins h P fun q hq => hp q (by simp [hq])⟩
theorem kd_bounds (f d : Int) : w32 (lowZ f d) ∧ w32 (highZ f d) ∧ w32 (borderZ f d) := by
  rcases kind3 f d with ⟨hm, rfl⟩ | ⟨hm, rfl⟩ | hm
  · have := pw_le (d - 1) (by have := hm.2.2; omega)
    obtain ⟨a, b, c, -⟩ := zs0 hm
    rw [a, b, c]; unfold w32; omega
  · have := pw_le (d - 1) (by have := hm.2.2; omega)
    obtain ⟨a, b, c, -⟩ := zs1 hm
    rw [a, b, c]; unfold w32; omega
  · obtain ⟨a, b, c, -⟩ := zs2 hm
    rw [a, b, c]; unfold w32; omega
theorem val_w32 {op k s x : Int} {xs : List Int} (h : YtihbhbeaihdgnaaGreat.Spn.valZ op k s xs = (x, 0)) : w32 x := by
  unfold YtihbhbeaihdgnaaGreat.Spn.valZ at h
  split at h
  · split at h
    · split at h
      · rename_i hw
        cases h
        exact YtihbhbeaihdgnaaGreat.Spn.wd_iff.1 hw
      · cases h
    · rename_i h1
      exact absurd (congrArg Prod.snd h) h1
  · cases h
theorem col_row (f : Int) : colZ f ≤ 2147483647 ∧ rowZ f ≤ 2147483647 := by
  unfold colZ rowZ
  constructor <;> (repeat' split) <;> omega
theorem inp_in {f d k : Int} {v : Wd} (hm : May f d) (hF : Fits f d v) (h0 : 0 ≤ k) (h5 : k ≤ 5) : ((inZ f d k).getD (0, 0)).1 ≤ inpV f d v k ∧ inpV f d v k ≤ ((inZ f d k).getD (0, 0)).2 ∧ w32 (inpV f d v k) := by
  obtain ⟨⟨⟨⟨a1, a2, e1, g1, g2⟩, ⟨b1, b2, e2, g3, g4⟩⟩, ⟨c1, c2, e3, g5, g6⟩⟩, -⟩ := hF
  obtain ⟨w1, w2, w3⟩ := kd_bounds f d
  have hcr := col_row f
  rcases (show k = 0 ∨ k = 1 ∨ k = 2 ∨ k = 3 ∨ k = 4 ∨ k = 5 by omega) with rfl | rfl | rfl | rfl | rfl | rfl
  · rw [e1]
    have e : inZ f d 0 = some (0, colZ f - 1) := by unfold inZ; rw [if_neg (by simpa using hm)]; rfl
    rw [e] at e1
    cases e1
    exact ⟨g1, g2, by show w32 v.x; unfold w32; omega⟩
  · rw [e2]
    have e : inZ f d 1 = some (0, rowZ f - 1) := by unfold inZ; rw [if_neg (by simpa using hm)]; rfl
    rw [e] at e2
    cases e2
    exact ⟨g3, g4, by show w32 v.y; unfold w32; omega⟩
  · rw [e3]
    have e : inZ f d 2 = some (0, 3) := by unfold inZ; rw [if_neg (by simpa using hm)]; rfl
    rw [e] at e3
    cases e3
    exact ⟨g5, g6, by show w32 v.c; unfold w32; omega⟩
  · have e : inZ f d 3 = some (lowZ f d, lowZ f d) := by unfold inZ; rw [if_neg (by simpa using hm)]; rfl
    rw [e]; exact ⟨Int.le_refl _, Int.le_refl _, w1⟩
  · have e : inZ f d 4 = some (highZ f d, highZ f d) := by unfold inZ; rw [if_neg (by simpa using hm)]; rfl
    rw [e]; exact ⟨Int.le_refl _, Int.le_refl _, w2⟩
  · have e : inZ f d 5 = some (borderZ f d, borderZ f d) := by unfold inZ; rw [if_neg (by simpa using hm)]; rfl
    rw [e]; exact ⟨Int.le_refl _, Int.le_refl _, w3⟩

/-- One instruction: where its span is answered, it answers, and lies in it. -/
theorem vlI_in {f d : Int} {v : Wd} {V : List Int} {S : Sps} {n : In} (hm : May f d) (hF : Fits f d v) (hI : Inn V S) (ho : okI n S.length = true) (ha : ahI f d n = false) (h : (sgI f d S n).2 = 0) :
    (vlI f d v V n).2 = 0 ∧ (sgI f d S n).1.1 ≤ (vlI f d v V n).1 ∧ (vlI f d v V n).1 ≤ (sgI f d S n).1.2 ∧ w32 (vlI f d v V n).1 := by
  have hc := Cde.ok_con ho
  unfold vlI
  unfold sgI at h ⊢
  by_cases h1 : n.op = 1
  · rw [if_pos h1] at h ⊢
    rw [if_pos h1]
    rw [Cde.csB, if_pos h1, Bool.and_eq_true, YtihbhbeaihdgnaaGreat.Spn.wd_iff] at hc
    exact ⟨rfl, Int.le_refl _, Int.le_refl _, hc.1⟩
  rw [if_neg h1] at h ⊢
  rw [if_neg h1]
  by_cases h2 : n.op = 2
  · rw [if_pos h2] at h ⊢
    rw [if_pos h2]
    rw [Cde.csB, if_neg h1, if_pos h2, Bool.and_eq_true, YtihbhbeaihdgnaaGreat.Spn.inB_iff] at hc
    exact ⟨rfl, inp_in hm hF hc.1.1 hc.1.2⟩
  rw [if_neg h2] at h ⊢
  rw [if_neg h2]
  by_cases h3 : n.op = 3
  · rw [if_pos h3] at h ⊢
    rw [if_pos h3]
    rw [Cde.csB, if_neg h1, if_neg h2, if_pos h3, Bool.and_eq_true, YtihbhbeaihdgnaaGreat.Spn.inB_iff] at hc
    have hk : ¬ countZ f d ≤ n.k := by
      intro hk
      have : ahI f d n = true := by unfold ahI; rw [h3]; simpa using hk
      rw [this] at ha; cases ha
    rw [if_neg hk]
    have hfl := Cde.fit_len hF
    have hl : n.k.toNat < v.ps.length := by omega
    have hmem := hF.2.2 (v.ps.getD n.k.toNat 0) (Cde.getD_mem 0 hl)
    obtain ⟨w1, w2, -⟩ := kd_bounds f d
    exact ⟨rfl, hmem.1, hmem.2, by unfold w32 at *; dsimp only; omega⟩
  rw [if_neg h3] at h ⊢
  rw [if_neg h3]
  obtain ⟨x, h5, h6, h7⟩ := YtihbhbeaihdgnaaGreat.Spn.holds_all (Prod.ext rfl h : YtihbhbeaihdgnaaGreat.Spn.ofZ n.op n.k n.s (asS S n) = ((_, _), 0)) (hI.ins (agL n) fun p hp => (ag_reg ho hp).2)
  have e : YtihbhbeaihdgnaaGreat.Spn.valZ n.op n.k n.s (arV V n) = (x, 0) := h5
  rw [e]
  exact ⟨rfl, h6, h7, val_w32 h5⟩
theorem any_take {f d : Int} {L : List In} (h : L.any (ahI f d) = false) {k : Nat} (hk : k < L.length) : ahI f d (L.getD k i0) = false := by
  cases hb : ahI f d (L.getD k i0)
  · rfl
  · rw [ah_of hk hb] at h; cases h
/-- All of them. -/
theorem vlF_in {f d : Int} {v : Wd} {L : List In} (hm : May f d) (hF : Fits f d v) (hok : okT L L.length = true) (ha : L.any (ahI f d) = false) (h0 : (sgF f d L).1 = 0) :
    ∀ k, k ≤ L.length → ∃ V S, vlF f d v (L.take k) = (0, V) ∧ sgF f d (L.take k) = (0, S) ∧ Inn V S
  | 0, _ => ⟨[], [], rfl, rfl, rfl, fun i hi => by simp at hi⟩
  | k + 1, hk => by
    obtain ⟨V, S, h1, h2, h3⟩ := vlF_in hm hF hok ha h0 k (by omega)
    have hl : S.length = k := by
      have := sgF_len f d L k (by omega)
      rw [h2] at this
      exact this rfl
    have ho := Cde.okT_at hok (show k < L.length by omega)
    rw [← hl] at ho
    have hz : (sgI f d S (L.getD k i0)).2 = 0 := by
      by_cases hz : (sgI f d S (L.getD k i0)).2 = 0
      · exact hz
      · have e : sgF f d (L.take (k + 1)) = ((sgI f d S (L.getD k i0)).2, []) := by
          rw [Cde.take_snoc i0 (by omega), sgF_snoc, h2, sgS, if_pos rfl, if_neg hz]
        have := sgF_bad e hz
        rw [this] at h0
        exact absurd h0 hz
    rw [hl] at ho
    obtain ⟨a, b, c, e⟩ := vlI_in hm hF h3 (by rw [hl]; exact ho) (any_take ha (by omega)) hz
    refine ⟨V ++ [(vlI f d v V (L.getD k i0)).1], S ++ [(sgI f d S (L.getD k i0)).1], ?_, ?_, h3.snoc b c e⟩
    · rw [Cde.take_snoc i0 (by omega), Cde.vlF_snoc, h1, vlS, if_pos rfl, if_pos a]
    · rw [Cde.take_snoc i0 (by omega), sgF_snoc, h2, sgS, if_pos rfl, if_pos hz]
theorem co_pos {n : In} {i : Nat} (h : okI n i = true) : 1 ≤ coZ n.op := by
  have h4 : n.op ≠ 4 := by
    intro e
    have := Cde.ok_ar h
    rw [e] at this
    exact absurd this (by decide)
  unfold coZ
  rw [if_neg h4]
  repeat' split
  all_goals omega
theorem co_ge {L : List In} (hok : okT L L.length = true) : ∀ k : Nat, k ≤ L.length → (k : Int) ≤ coL (L.take k)
  | 0, _ => by simp [coL]
  | k + 1, hk => by
    have ih := co_ge hok k (by omega)
    have := co_pos (Cde.okT_at hok (show k < L.length by omega))
    rw [Cde.take_snoc i0 (by omega), Cde.coL_snoc]
    omega
/-- What is taken is harmless. -/
theorem vf_holds {f d : Int} {L : List In} {out : Int} (h : vfE f d L out = 0) : (L.length : Int) ≤ coL L ∧ coL L ≤ 200 ∧ ∀ v : Wd, Fits f d v → ∃ V, vaZ f d v L out = (0, V) ∧ Inn V (vfS f d L out) := by
  obtain ⟨m, ha, ⟨S, hS, hl, hs⟩, hc, -, -⟩ := vf_parts h
  obtain ⟨hm, -, -, -, -, hok⟩ := Cde.mc_parts m
  refine ⟨?_, hc, fun v hF => ?_⟩
  · have := co_ge hok L.length (Nat.le_refl _)
    rwa [List.take_length] at this
  · obtain ⟨V, S', h1, h2, h3⟩ := vlF_in hm hF hok ha (by rw [hS]) L.length (Nat.le_refl _)
    rw [List.take_length] at h1 h2
    rw [hS] at h2
    cases h2
    refine ⟨V, ?_, by rw [hs]; exact h3⟩
    rw [vaZ, if_pos m, if_pos hF]
    exact h1
theorem va_unfit {f d : Int} {L : List In} {out : Int} {v : Wd} (h : vfE f d L out = 0) (hF : ¬ Fits f d v) : vaZ f d v L out = (1, []) := by
  obtain ⟨m, -⟩ := vf_parts h
  rw [vaZ, if_pos m, if_neg hF]

end Go.Proofs.Vfy

/-
  Spans in memory, for verify's walks.
-/
namespace Go.Proofs.Vfy
open Go.RowKit Go.IntWalk YtihbhbeaihdgnaaGreat.Knd
open YtihbhbeaihdgnaaGreat (Spn.Spans)
set_option linter.unusedVariables false

abbrev sp2 (p : Int × Int) : Array Value := #[.int .i64 p.1, .int .i64 p.2]
abbrev rep0 : Array Value := #[.slice none 0 0, .int .i64 0, .int .i64 0]
abbrev spA (L : Sps) : Array Value := (YtihbhbeaihdgnaaGreat.Spn.sp64 L).toArray
theorem spA_get (L : Sps) (i : Nat) (h : i < L.length) : (spA L)[i * 2]? = some (.int .i64 (L.getD i (0, 0)).1) ∧ (spA L)[i * 2 + 1]? = some (.int .i64 (L.getD i (0, 0)).2) := by
  unfold spA
  rw [List.getElem?_toArray, List.getElem?_toArray]
  exact YtihbhbeaihdgnaaGreat.Spn.sp64_get L i h
theorem made_sp (n : Nat) : madeCells #[.int .i64 0, .int .i64 0] (n * 2) = spA (List.replicate n (0, 0)) := by
  apply Array.ext_getElem?
  intro i
  by_cases hi : i < n * 2
  · have h1 : (madeCells #[.int .i64 0, .int .i64 0] (n * 2))[i]? = some (.int .i64 0) := by
      unfold madeCells
      rw [Array.getElem?_map, Array.getElem?_eq_getElem (by simpa using hi)]
      simp only [Array.getElem_range, Option.map_some]
      rcases (show i % 2 = 0 ∨ i % 2 = 1 by omega) with h | h <;> (show some ((#[Value.int .i64 0, .int .i64 0])[i % 2]!) = _; rw [h]; rfl)
    rw [h1]
    obtain ⟨a, b⟩ := spA_get (List.replicate n (0, 0)) (i / 2) (by simp; omega)
    have hz : (List.replicate n ((0 : Int), (0 : Int))).getD (i / 2) (0, 0) = (0, 0) := by
      rw [List.getD_eq_getElem?_getD, List.getElem?_replicate]; split <;> rfl
    rw [hz] at a b
    rcases (show i % 2 = 0 ∨ i % 2 = 1 by omega) with h | h
    · rw [show i = i / 2 * 2 by omega]; exact a.symm
    · rw [show i = i / 2 * 2 + 1 by omega]; exact b.symm
  · rw [Array.getElem?_eq_none (by rw [size_madeCells]; omega), Array.getElem?_eq_none (by simp [YtihbhbeaihdgnaaGreat.Spn.sp64_len]; omega)]
theorem make_sp (n : Nat) (h : n ≤ 1024) (w : World) : (Instr.makeSlice 33 (.int .i64 n) (.int .i64 n)).run Tryz.prog w = .ok (.slice (some ⟨w.heap.size, 0, none⟩) n n) (w.alloc (.cells (spA (List.replicate n (0, 0))) 74)) := by
  obtain ⟨i0, hi, hz0, hz1, hz2⟩ := YtihbhbeaihdgnaaGreat.Spn.info_parts YtihbhbeaihdgnaaGreat.Spn.info26
  have := run_make w 33 74 i0 _ Tryz.underlying33 hi hz0 .i64 .i64 n n (by omega) (Int.le_refl _) (by rw [hz2]; omega) (by omega)
  rw [hz1] at this
  simp only [Int.toNat_natCast] at this
  have e : madeCells (Value.agg #[.int .i64 0, .int .i64 0]).cells (n * 2) = spA (List.replicate n (0, 0)) := made_sp n
  rw [e] at this
  exact this
theorem set_sp (S Z : Sps) (p q : Int × Int) : ((spA (S ++ q :: Z)).setIfInBounds (S.length * 2) (.int .i64 p.1)).setIfInBounds (S.length * 2 + 1) (.int .i64 p.2) = spA (S ++ p :: Z) := by
  apply Array.toList_inj.1
  simp only [Array.toList_setIfInBounds]
  have e : ∀ r : Int × Int, YtihbhbeaihdgnaaGreat.Spn.sp64 (S ++ r :: Z) = YtihbhbeaihdgnaaGreat.Spn.sp64 S ++ (.int .i64 r.1 :: .int .i64 r.2 :: YtihbhbeaihdgnaaGreat.Spn.sp64 Z) := fun r => by simp [YtihbhbeaihdgnaaGreat.Spn.sp64]
  rw [e, e, List.set_append_right _ _ (by rw [YtihbhbeaihdgnaaGreat.Spn.sp64_len]; omega), List.set_append_right _ _ (by rw [YtihbhbeaihdgnaaGreat.Spn.sp64_len]; omega), YtihbhbeaihdgnaaGreat.Spn.sp64_len]
  simp
theorem spans_has {W : World} {g : Nat} {L : Sps} (h : HasC W g 74 (spA L)) (hl : L.length ≤ 1024) : YtihbhbeaihdgnaaGreat.Spn.Spans W (some ⟨g, 0, none⟩) L.length L.length L := by
  refine ⟨rfl, Nat.le_refl _, by unfold maxLen; omega, (fun e => by cases e), .inr ⟨g, 0, rfl, fun i hi => ?_⟩⟩
  obtain ⟨a, b⟩ := spA_get L i hi
  rw [Nat.zero_add]
  exact ⟨h.cell (i * 2) a, h.cell (i * 2 + 1) b⟩
theorem put_sp {W : World} {g k : Nat} {S Z : Sps} {q : Int × Int} (h : HasC W g 74 (spA (S ++ q :: Z))) (hk : S.length = k) (x y : Int) : HasC ((W.setCell ⟨g, k * 2, none⟩ (.int .i64 x)).setCell ⟨g, k * 2 + 1, none⟩ (.int .i64 y)) g 74 (spA (S ++ (x, y) :: Z)) := by
  subst hk
  have := (h.set (S.length * 2) (.int .i64 x)).set (S.length * 2 + 1) (.int .i64 y)
  rwa [show ((spA (S ++ q :: Z)).setIfInBounds (S.length * 2) (.int .i64 x)).setIfInBounds (S.length * 2 + 1) (.int .i64 y) = spA (S ++ (x, y) :: Z) from set_sp S Z (x, y) q] at this
theorem rep_succ {n k : Nat} (h : k < n) : List.replicate (n - k) ((0 : Int), (0 : Int)) = (0, 0) :: List.replicate (n - (k + 1)) (0, 0) := by
  rw [show n - k = (n - (k + 1)) + 1 by omega, List.replicate_succ]
theorem oth2' {W : World} {b r k : Nat} {t : TypeId} {cs : Array Value} (h : HasC W b t cs) (hr : b ≠ r) (x y : Value) : HasC ((W.setCell ⟨r, k * 2, none⟩ x).setCell ⟨r, k * 2 + 1, none⟩ y) b t cs := (h.other (p := ⟨r, k * 2, none⟩) hr x).other (p := ⟨r, k * 2 + 1, none⟩) hr y
theorem two_of {W : World} {b : Nat} {t : TypeId} {x y : Value} (h : HasC W b t #[x, y]) : W.cell? ⟨b, 0, none⟩ = some x ∧ W.cell? ⟨b, 1, none⟩ = some y ∧ W.frozen? ⟨b, 0, none⟩ = false ∧ W.frozen? ⟨b, 1, none⟩ = false :=
  ⟨h.cell 0 rfl, h.cell 1 rfl, h.frozen 0, h.frozen 1⟩
theorem put_two {w w2 : World} {b : Nat} {t : TypeId} {p q : Value} (h : HasC w2 b t #[p, q]) (hB : Below w.heap.size w w2) (hb : w.heap.size ≤ b) (x y : Int) :
    ((w2.setCell ⟨b, 0, none⟩ (.int .i64 x)).setCell ⟨b, 1, none⟩ (.int .i64 y)).cell? ⟨b, 0, none⟩ = some (.int .i64 x) ∧ ((w2.setCell ⟨b, 0, none⟩ (.int .i64 x)).setCell ⟨b, 1, none⟩ (.int .i64 y)).cell? ⟨b, 1, none⟩ = some (.int .i64 y) ∧
    Below w.heap.size w ((w2.setCell ⟨b, 0, none⟩ (.int .i64 x)).setCell ⟨b, 1, none⟩ (.int .i64 y)) :=
  YtihbhbeaihdgnaaGreat.Spn.stored2 h hB hb x y
theorem oth2 {W : World} {b r : Nat} {t : TypeId} {cs : Array Value} (h : HasC W b t cs) (hr : b ≠ r) (x y : Value) : HasC ((W.setCell ⟨r, 0, none⟩ x).setCell ⟨r, 1, none⟩ y) b t cs := (h.other (p := ⟨r, 0, none⟩) hr x).other (p := ⟨r, 1, none⟩) hr y
theorem set2 {W : World} {b : Nat} {t : TypeId} {p q : Value} (h : HasC W b t #[p, q]) (x y : Value) : HasC ((W.setCell ⟨b, 0, none⟩ x).setCell ⟨b, 1, none⟩ y) b t #[x, y] := (h.set 0 x).set 1 y
theorem three_of {W : World} {b : Nat} {t : TypeId} {x y z : Value} (h : HasC W b t #[x, y, z]) : W.cell? ⟨b, 0, none⟩ = some x ∧ W.cell? ⟨b, 1, none⟩ = some y ∧ W.cell? ⟨b, 2, none⟩ = some z ∧ W.frozen? ⟨b, 0, none⟩ = false ∧ W.frozen? ⟨b, 1, none⟩ = false ∧ W.frozen? ⟨b, 2, none⟩ = false :=
  ⟨h.cell 0 rfl, h.cell 1 rfl, h.cell 2 rfl, h.frozen 0, h.frozen 1, h.frozen 2⟩
theorem put_three {w w2 : World} {b : Nat} {t : TypeId} {p q r : Value} (h : HasC w2 b t #[p, q, r]) (hB : Below w.heap.size w w2) (hb : w.heap.size ≤ b) (x y z : Value) :
    HasC (((w2.setCell ⟨b, 0, none⟩ x).setCell ⟨b, 1, none⟩ y).setCell ⟨b, 2, none⟩ z) b t #[x, y, z] ∧
    Below w.heap.size w (((w2.setCell ⟨b, 0, none⟩ x).setCell ⟨b, 1, none⟩ y).setCell ⟨b, 2, none⟩ z) :=
  ⟨((h.set 0 x).set 1 y).set 2 z, ((hB.setCell (p := ⟨b, 0, none⟩) hb _).setCell (p := ⟨b, 1, none⟩) hb _).setCell (p := ⟨b, 2, none⟩) hb _⟩
theorem other_three {W : World} {b r : Nat} {t : TypeId} {cs : Array Value} (h : HasC W b t cs) (hr : b ≠ r) (x y z : Value) : HasC (((W.setCell ⟨r, 0, none⟩ x).setCell ⟨r, 1, none⟩ y).setCell ⟨r, 2, none⟩ z) b t cs :=
  ((h.other (p := ⟨r, 0, none⟩) hr x).other (p := ⟨r, 1, none⟩) hr y).other (p := ⟨r, 2, none⟩) hr z
theorem spans_none (W : World) : YtihbhbeaihdgnaaGreat.Spn.Spans W none 0 0 [] := ⟨rfl, Nat.le_refl _, by unfold maxLen; omega, fun _ => rfl, .inl rfl⟩

/-- The report's own spans: none, or a block of their own. -/
def Own (z n : Nat) (a : Option Addr) (V : World) : Prop := n = 0 ∨ ∃ g cs, a = some ⟨g, 0, none⟩ ∧ z ≤ g ∧ HasC V g 74 cs ∧ cs.size = 2 * n
theorem Own.later {z n : Nat} {a : Option Addr} {V V' : World} (h : Own z n a V) (hb : Below V.heap.size V V') : Own z n a V' := by
  rcases h with h | ⟨g, cs, h1, h2, h3, h4⟩
  · exact .inl h
  · exact .inr ⟨g, cs, h1, h2, h3.below hb, h4⟩
/-- A report in one form: how many spans, the cost, the error, the spans. -/
def RpP (own : Bool) (w : World) (n : Nat) (co er : Int) (S : Sps) (e : Ending) (W' : World) : Prop :=
  ∃ a cap, e = .returned (.tuple #[.agg #[.slice a n cap, .int .i64 co, .int .i64 0], .int .i64 er]) ∧ YtihbhbeaihdgnaaGreat.Spn.Spans W' a n cap S ∧ Below w.heap.size w W' ∧ (∀ b off, a = some ⟨b, off, none⟩ → w.heap.size ≤ b) ∧ (own = true → Own w.heap.size n a W')
theorem RpP.no {own : Bool} {w W' : World} {er : Int} (hb : Below w.heap.size w W') : RpP own w 0 0 er [] (.returned (.tuple #[.agg rep0, .int .i64 er])) W' :=
  ⟨none, 0, rfl, spans_none _, hb, fun b off h => by simp at h, fun _ => .inl rfl⟩
theorem RpP.row {w W' : World} {S : Sps} {g n : Nat} {co : Int} (hg : HasC W' g 74 (spA S)) (hn : S.length = n) (h0 : w.heap.size ≤ g) (hl : n ≤ 1024) (hb : Below w.heap.size w W') : RpP true w n co 0 S (.returned (.tuple #[.agg #[.slice (some ⟨g, 0, none⟩) n n, .int .i64 co, .int .i64 0], .int .i64 0])) W' := by
  subst hn
  exact ⟨_, _, rfl, spans_has hg hl, hb, fun b off h => by cases h; exact h0, fun _ => .inr ⟨g, _, rfl, h0, hg, by simp [YtihbhbeaihdgnaaGreat.Spn.sp64_len]; omega⟩⟩

end Go.Proofs.Vfy

/-
  verify.spanOf: the span of one register.
-/
namespace Go.Proofs.Vfy
open Go.RowKit Go.IntWalk YtihbhbeaihdgnaaGreat.Knd
open Cde (In i0 ia kd agL arN okI zA abc at6 six_of has_new1)
set_option linter.unusedVariables false

theorem asS_len (S : Sps) (n : In) : (asS S n).length = arN n := by rw [asS, List.length_map, Cde.agL_len]
theorem asS_snoc {S : Sps} {n : In} {k : Nat} (hk : k < arN n) : (asS S n).take (k + 1) = (asS S n).take k ++ [S.getD (Cde.rgN n k).toNat (0, 0)] := by
  rw [Cde.take_snoc (0, 0) (by rw [asS_len]; exact hk), ← Cde.agL_at n k hk]
  congr 2
  simp [asS, List.getD_eq_getElem?_getD, List.getElem?_map, List.getElem?_eq_getElem (show k < (agL n).length by rw [Cde.agL_len]; exact hk)]

set_option maxRecDepth 100000 in
set_option maxHeartbeats 4000000 in
/-- A number, an input, a place. -/
theorem yleaf (f d : Int) (n : In) (a : Option Addr) (sl sc : Nat) (h : n.op = 1 ∨ n.op = 2 ∨ n.op = 3) (S : Sps) (W : World) :
    Calls Tryz.prog 78 #[.agg (kd f d), .agg (ia n), .slice a sl sc] W fun e W' => e = .returned (YtihbhbeaihdgnaaGreat.Spn.spV (sgI f d S n)) ∧ Below W.heap.size W W' := by
  obtain ⟨o, pa, pb, pc, pk, ps⟩ := n
  simp only at h
  have hb1 := bel1 W (.cells (kd f d) 23)
  have hb2 := bel hb1 (bel1 (W.alloc (.cells (kd f d) 23)) (.cells (ia ⟨o, pa, pb, pc, pk, ps⟩) 41))
  have hb3 := bel hb2 (bel1 ((W.alloc (.cells (kd f d) 23)).alloc (.cells (ia ⟨o, pa, pb, pc, pk, ps⟩) 41)) (.cells #[.int .i64 0, .int .i64 0] 74))
  have HB0 := hide hb3
  have HBk := hide hb2
  have HK0 := hide (((HasC.new W 23 (kd f d)).alloc (.cells (ia ⟨o, pa, pb, pc, pk, ps⟩) 41)).alloc (.cells #[.int .i64 0, .int .i64 0] 74))
  have HR0 : Hid (HasC (((W.alloc (.cells (kd f d) 23)).alloc (.cells (ia ⟨o, pa, pb, pc, pk, ps⟩) 41)).alloc (.cells #[.int .i64 0, .int .i64 0] 74)) (W.heap.size + 1 + 1) 74 #[.int .i64 0, .int .i64 0]) := by
    have := HasC.new ((W.alloc (.cells (kd f d) 23)).alloc (.cells (ia ⟨o, pa, pb, pc, pk, ps⟩) 41)) 74 #[.int .i64 0, .int .i64 0]
    simp only [World.size_alloc] at this
    exact hide this
  clear hb1 hb2 hb3
  rcases h with rfl | rfl | rfl
  · rw [show sgI f d S ⟨1, pa, pb, pc, pk, ps⟩ = ((pk, pk), 0) from rfl]
    go_enter Tryz.func78, Tryz.ntmps78
    go_wp2
    exact bodyPost_ret (v := .tuple #[.agg #[.int .i64 pk, .int .i64 pk], .int .i64 0]) (by simp [results, Tryz.results78, go_sem]) rfl ⟨rfl, bel HBk.out (bel1 _ _)⟩
  · rw [show sgI f d S ⟨2, pa, pb, pc, pk, ps⟩ = ((inZ f d pk).getD (0, 0), 0) from rfl]
    have HI := hide fun w => input_any f d pk w
    unfold inV at HI
    obtain ⟨⟨lo, hi⟩, hp⟩ : ∃ p, (inZ f d pk).getD (0, 0) = p := ⟨_, rfl⟩
    rw [hp] at HI ⊢
    generalize (inZ f d pk).isSome = q at HI
    clear hp
    go_enter Tryz.func78, Tryz.ntmps78
    go_wp2_with fail
    refine (HI.out _).mono ?_
    rintro e V1 ⟨rfl, hb⟩
    have HB1 := hide (bel HB0.out hb)
    have hz := (HR0.out.below hb).lt
    obtain ⟨-, -, hB⟩ := put_two (HR0.out.below hb) HB1.out (by omega) lo hi
    have h3 := (set2 (HR0.out.below hb) (.int .i64 lo) (.int .i64 hi)).alloc (.cells #[.int .i64 lo, .int .i64 hi] 74)
    have r0 := h3.cell 0 rfl
    have r1 := h3.cell 1 rfl
    have HB2 := hide (bel hB (bel1 _ (.cells #[.int .i64 lo, .int .i64 hi] 74)))
    have HR2 := hide r0
    have HR3 := hide r1
    clear r0 r1 h3 hB
    obtain ⟨c0, c1, c2, c3⟩ := two_of (HR0.out.below hb)
    clear hb
    go_wp2_with fail
    have r0 := HR2.out
    have r1 := HR3.out
    exact bodyPost_ret (v := .tuple #[.agg #[.int .i64 lo, .int .i64 hi], .int .i64 0]) (by simp only [results, Tryz.results78]; simp [go_sem, r0, r1]) rfl ⟨rfl, HB2.out⟩
  · rw [show sgI f d S ⟨3, pa, pb, pc, pk, ps⟩ = ((lowZ f d, highZ f d), 0) from rfl]
    have HLo := hide fun w => low_any f d w
    have HHi := hide fun w => high_any f d w
    generalize lowZ f d = lo at *
    generalize highZ f d = hi at *
    have x0 := HK0.out.cell 0 rfl
    have y0 := HK0.out.cell 1 rfl
    go_enter Tryz.func78, Tryz.ntmps78
    go_wp2_with fail
    obtain ⟨W0, hW0⟩ : ∃ W0, (((W.alloc (.cells (kd f d) 23)).alloc (.cells (ia ⟨3, pa, pb, pc, pk, ps⟩) 41)).alloc (.cells #[.int .i64 0, .int .i64 0] 74)) = W0 := ⟨_, rfl⟩
    rw [hW0] at HR0 HK0 HB0 x0 y0 ⊢
    clear hW0
    have HRd : Hid (HasC W0.drew (W.heap.size + 1 + 1) 74 #[.int .i64 0, .int .i64 0]) := HR0.out
    have HKd : Hid (HasC W0.drew W.heap.size 23 (kd f d)) := HK0.out
    have HBd := hide HB0.out.drew
    go_region_held3 (fun w' => w'.cell? ⟨W.heap.size, 0, none⟩ = some (.int .i64 f) ∧ w'.cell? ⟨W.heap.size, 1, none⟩ = some (.int .i64 d))
      (first | exact ⟨x0, y0⟩ | exact ⟨x3, y3⟩ | exact ⟨x4, y4⟩ | exact ⟨(oth2 HK4.out (by omega) _ _).cell 0 rfl, (oth2 HK4.out (by omega) _ _).cell 1 rfl⟩ | go_keep)
      ((first
        | (go_at_call 57; refine (HLo.out _).mono ?_; rintro e w3 ⟨rfl, hb3⟩; have HR3 := hide (HRd.out.below hb3); have HK3 := hide (HKd.out.below hb3); have HB3 := hide (bel HBd.out hb3); clear hb3; obtain ⟨x3, y3, -, -⟩ := two_of HK3.out)
        | (go_at_call 58; refine (HHi.out _).mono ?_; rintro e w4 ⟨rfl, hb4⟩; have HR4 := hide (HR3.out.below hb4); have HK4 := hide (HK3.out.below hb4); have HB4 := hide (bel HB3.out hb4); clear hb4; obtain ⟨x4, y4, -, -⟩ := two_of HK4.out; obtain ⟨g0, g1, g2, g3⟩ := two_of HR4.out)))
    all_goals
      obtain ⟨r0, r1, hB⟩ := put_two HR4.out HB4.out (by omega) lo hi
      go_wp2
      exact bodyPost_ret (v := .tuple #[.agg #[.int .i64 lo, .int .i64 hi], .int .i64 0]) (by simp [results, Tryz.results78, go_sem, r0, r1]) rfl ⟨rfl, hB⟩

set_option maxRecDepth 100000 in
set_option maxHeartbeats 4000000 in
/-- An operator's span. -/
theorem yin (f d : Int) (n : In) {i sl sc : Nat} {a : Option Addr} {S : Sps} {W : World} (ho : okI n i = true) (h1 : n.op ≠ 1) (h2 : n.op ≠ 2) (h3 : n.op ≠ 3) (hS : YtihbhbeaihdgnaaGreat.Spn.Spans W a sl sc S) (hi : i ≤ sl) :
    Calls Tryz.prog 78 #[.agg (kd f d), .agg (ia n), .slice a sl sc] W fun e W' => e = .returned (YtihbhbeaihdgnaaGreat.Spn.spV (sgI f d S n)) ∧ Below W.heap.size W W' := by
  have hsl : sl ≤ 9223372036854775807 := by have := hS.le; have := hS.max; unfold maxLen at *; omega
  rw [show sgI f d S n = YtihbhbeaihdgnaaGreat.Spn.ofZ n.op n.k n.s (asS S n) by unfold sgI; rw [if_neg h1, if_neg h2, if_neg h3]]
  have HRg := hide fun j hj => Cde.ok_reg ho (j := j) hj
  have HSg := hide fun j hj => asS_snoc (S := S) (n := n) (k := j) hj
  have HA3 := hide (Cde.arN_le n)
  have HAb := hide fun j (h : j < 3) => Cde.abc_at n j h
  have HLl := hide (asS_len S n)
  have HPO := hide fun w => Cde.cargs_ex n w
  have q1 : (n.op == 1) = false := by simpa using h1
  have q2 : (n.op == 2) = false := by simpa using h2
  have q3 : (n.op == 3) = false := by simpa using h3
  generalize asS S n = L at *
  generalize arN n = k at *
  have hb1 := bel1 W (.cells (kd f d) 23)
  have hb2 := bel hb1 (bel1 (W.alloc (.cells (kd f d) 23)) (.cells (ia n) 41))
  have hb3 := bel hb2 (bel1 ((W.alloc (.cells (kd f d) 23)).alloc (.cells (ia n) 41)) (.cells #[.int .i64 0, .int .i64 0] 74))
  have HB0 := hide hb3
  have HN0 : Hid (HasC (((W.alloc (.cells (kd f d) 23)).alloc (.cells (ia n) 41)).alloc (.cells #[.int .i64 0, .int .i64 0] 74)) (W.heap.size + 1) 41 (ia n)) := by
    have := (HasC.new (W.alloc (.cells (kd f d) 23)) 41 (ia n)).alloc (.cells #[.int .i64 0, .int .i64 0] 74)
    simp only [World.size_alloc] at this
    exact hide this
  have HR0 : Hid (HasC (((W.alloc (.cells (kd f d) 23)).alloc (.cells (ia n) 41)).alloc (.cells #[.int .i64 0, .int .i64 0] 74)) (W.heap.size + 1 + 1) 74 #[.int .i64 0, .int .i64 0]) := by
    have := HasC.new ((W.alloc (.cells (kd f d) 23)).alloc (.cells (ia n) 41)) 74 #[.int .i64 0, .int .i64 0]
    simp only [World.size_alloc] at this
    exact hide this
  have HS0 := hide (hS.later hb3)
  clear hb1 hb2 hb3 hS ho h1 h2 h3
  go_enter Tryz.func78, Tryz.ntmps78
  go_wp2_with fail
  refine (HPO.out _).mono ?_
  rintro e V1 ⟨g, rfl, -, hG, hb⟩
  have HG := hide hG
  have HR1 := hide (HR0.out.below hb)
  have HN1 := hide (HN0.out.below hb)
  have HB1 := hide (bel HB0.out hb)
  have HS1 := hide (HS0.out.later hb)
  have hgl := hG.lt
  clear hG hb HR0 HN0 HB0 HS0 HPO
  go_wp2_with fail
  go_loopw [10, 42] (fun v i wr => ∃ j : Nat, j ≤ k ∧ i = .int .i64 j ∧ Hid (YtihbhbeaihdgnaaGreat.Spn.Es V1 wr v j (L.take j))) (fun _ i _ => k - (intOf i).toNat)
  case atStart => exact ⟨0, Nat.zero_le _, rfl, hide (YtihbhbeaihdgnaaGreat.Spn.Es.start V1)⟩
  case round =>
    obtain ⟨j, hj, rfl, HE⟩ := hrel
    rename World => V
    by_cases hlt : j < k
    · have h33 : j < 3 := by have := HA3.out; omega
      have cp := (HG.out.below HE.out.bel).cell j (Cde.zA_get (abc n) j (by simp [abc]; omega))
      rw [HAb.out j h33] at cp
      obtain ⟨p0, p1⟩ := HRg.out j hlt
      have HT := hide (HSg.out j hlt)
      obtain ⟨q, hq⟩ : ∃ q : Nat, Cde.rgN n j = (q : Int) := ⟨(Cde.rgN n j).toNat, by omega⟩
      rw [hq] at cp p1 HT
      simp only [Int.toNat_natCast] at p1 HT
      obtain ⟨b, off, rfl, -, hcs⟩ := (HS1.out.later HE.out.bel).at (by omega)
      obtain ⟨s0, s1⟩ := hcs q (by omega)
      generalize S.getD q (0, 0) = sv at *
      obtain ⟨lo, hi2⟩ := sv
      simp only at s0 s1
      have j0 : (0 : Int) ≤ j := by omega
      have j1 : (j : Int) < k := by omega
      have j2 : (j : Int) < 3 := by omega
      have i0 : (0 : Int) ≤ q := by omega
      have i1 : (q : Int) < sl := by omega
      clear hcs p0 p1 hq
      go_wp2_with (at_builtin; refine YtihbhbeaihdgnaaGreat.Spn.list_span (w := V1) (L := L.take j) rfl _ _ rfl rfl (HE.out.alloc _) _ lo hi2 rfl (YtihbhbeaihdgnaaGreat.Spn.HasC.new _ _ _) (by omega) ?_; intro g2 cap2 w2 HE2 hsz)
      go_roundw
      case rel => exact ⟨j + 1, by omega, by go_num, hide (by rw [HT.out]; exact HE2)⟩
      case measure => simp [intOf]; omega
    · obtain rfl : j = k := by omega
      have e : L.take j = L := List.take_of_length_le (by rw [HLl.out]; exact Nat.le_refl _)
      have HE1 := HE.out
      rw [e] at HE1
      obtain ⟨va, vc, rfl, hA⟩ := YtihbhbeaihdgnaaGreat.Spn.Spans.of_owns HE1.a HLl.out
      have HOf := hide (YtihbhbeaihdgnaaGreat.Spn.of_any n.op n.k n.s _ _ _ _ _ hA)
      have HR2 := hide (HR1.out.below HE1.bel)
      have HB2 := hide (bel HB1.out HE1.bel)
      obtain ⟨x0, -, -, -, x4, x5⟩ := six_of (HN1.out.below HE1.bel)
      obtain ⟨⟨⟨lo, hi2⟩, er⟩, hZ⟩ : ∃ Z, YtihbhbeaihdgnaaGreat.Spn.ofZ n.op n.k n.s L = Z := ⟨_, rfl⟩
      rw [hZ] at HOf
      have HZ := hide hZ
      clear hZ hA e HE HE1
      go_wp2_with fail
      refine HOf.out.mono ?_
      rintro e V2 ⟨rfl, hb⟩
      have HR3 := hide (HR2.out.below hb)
      have HB3 := hide (bel HB2.out hb)
      obtain ⟨g0, g1, g2, g3⟩ := two_of HR3.out
      clear hb
      go_wp2_with fail
      obtain ⟨r0, r1, hB⟩ := put_two HR3.out HB3.out (by omega) lo hi2
      exact bodyPost_ret (v := .tuple #[.agg #[.int .i64 lo, .int .i64 hi2], .int .i64 er]) (by simp [results, Tryz.results78, go_sem, r0, r1]) rfl ⟨by rw [HZ.out], hB⟩

/-- spanOf, whatever the instruction. -/
theorem yspan_any (f d : Int) {n : In} {i sl sc : Nat} {a : Option Addr} {S : Sps} {W : World} (ho : okI n i = true) (hS : YtihbhbeaihdgnaaGreat.Spn.Spans W a sl sc S) (hi : i ≤ sl) :
    Calls Tryz.prog 78 #[.agg (kd f d), .agg (ia n), .slice a sl sc] W fun e W' => e = .returned (YtihbhbeaihdgnaaGreat.Spn.spV (sgI f d S n)) ∧ Below W.heap.size W W' := by
  by_cases h : n.op = 1 ∨ n.op = 2 ∨ n.op = 3
  · exact yleaf f d n a sl sc h S W
  · exact yin f d n ho (by omega) (by omega) (by omega) hS hi

end Go.Proofs.Vfy
