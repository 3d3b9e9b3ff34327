/-
  What is taken is harmless, plainly: each register lies in its span.
-/
import Derived.Test.YtijbmdmeiancgaaGreatMYA
namespace Go.Proofs.Vfy
open Go.RowKit Go.IntWalk YtijbmdmeiancgaaGreat.Knd
open YtijbmdmeiancgaaGreat (Wd wdA Fits inpV)
open Cde (In i0 agL arN okI okT mcB coL coZ vlI vlS vlF vaZ arV)
set_option linter.unusedVariables false

abbrev w32 (x : Int) : Prop := -2147483648 ≤ x ∧ x ≤ 2147483647
/-- Numbers that lie in spans, and have 32 bits. -/
def Inn (V : List Int) (S : Sps) : Prop := V.length = S.length ∧ ∀ i, i < S.length → (S.getD i (0, 0)).1 ≤ V.getD i 0 ∧ V.getD i 0 ≤ (S.getD i (0, 0)).2 ∧ w32 (V.getD i 0)
theorem Inn.snoc {V : List Int} {S : Sps} {x : Int} {p : Int × Int} (h : Inn V S) (h1 : p.1 ≤ x) (h2 : x ≤ p.2) (h3 : w32 x) : Inn (V ++ [x]) (S ++ [p]) := by
  have hl := h.1
  refine ⟨by simp [hl], fun i hi => ?_⟩
  simp only [List.length_append, List.length_cons, List.length_nil] at hi
  by_cases e : i < S.length
  · rw [getS_pre e, Cde.getD_pre (by omega)]
    exact h.2 i e
  · have e2 : i = S.length := by omega
    subst e2
    rw [show (S ++ [p]).getD S.length (0, 0) = p by simp [List.getD_eq_getElem?_getD], show (V ++ [x]).getD S.length 0 = x by rw [← hl]; simp [List.getD_eq_getElem?_getD]]
    exact ⟨h1, h2, h3⟩
theorem Inn.ins {V : List Int} {S : Sps} (h : Inn V S) : ∀ (P : List Int), (∀ p ∈ P, p.toNat < S.length) → YtijbmdmeiancgaaGreat.Spn.Ins (P.map fun p => V.getD p.toNat 0) (P.map fun p => S.getD p.toNat (0, 0))
  | [], _ => trivial
  | p :: P, hp => by
    obtain ⟨h1, h2, -⟩ := h.2 p.toNat (hp p (by simp))
    exact ⟨⟨h1, h2⟩, Inn.ins h P fun q hq => hp q (by simp [hq])⟩
theorem kd_bounds (f d : Int) : w32 (lowZ f d) ∧ w32 (highZ f d) ∧ w32 (borderZ f d) := by
  rcases kind3 f d with ⟨hm, rfl⟩ | ⟨hm, rfl⟩ | hm
  · have := pw_le (d - 1) (by have := hm.2.2; omega)
    obtain ⟨a, b, c, -⟩ := zs0 hm
    rw [a, b, c]; unfold w32; omega
  · have := pw_le (d - 1) (by have := hm.2.2; omega)
    obtain ⟨a, b, c, -⟩ := zs1 hm
    rw [a, b, c]; unfold w32; omega
  · obtain ⟨a, b, c, -⟩ := zs2 hm
    rw [a, b, c]; unfold w32; omega
theorem val_w32 {op k s x : Int} {xs : List Int} (h : YtijbmdmeiancgaaGreat.Spn.valZ op k s xs = (x, 0)) : w32 x := by
  unfold YtijbmdmeiancgaaGreat.Spn.valZ at h
  split at h
  · split at h
    · split at h
      · rename_i hw
        cases h
        exact YtijbmdmeiancgaaGreat.Spn.wd_iff.1 hw
      · cases h
    · rename_i h1
      exact absurd (congrArg Prod.snd h) h1
  · cases h
theorem col_row (f : Int) : colZ f ≤ 2147483647 ∧ rowZ f ≤ 2147483647 := by
  unfold colZ rowZ
  constructor <;> (repeat' split) <;> omega
theorem inp_in {f d k : Int} {v : Wd} (hm : May f d) (hF : Fits f d v) (h0 : 0 ≤ k) (h5 : k ≤ 5) : ((inZ f d k).getD (0, 0)).1 ≤ inpV f d v k ∧ inpV f d v k ≤ ((inZ f d k).getD (0, 0)).2 ∧ w32 (inpV f d v k) := by
  obtain ⟨⟨⟨⟨a1, a2, e1, g1, g2⟩, ⟨b1, b2, e2, g3, g4⟩⟩, ⟨c1, c2, e3, g5, g6⟩⟩, -⟩ := hF
  obtain ⟨w1, w2, w3⟩ := kd_bounds f d
  have hcr := col_row f
  rcases (show k = 0 ∨ k = 1 ∨ k = 2 ∨ k = 3 ∨ k = 4 ∨ k = 5 by omega) with rfl | rfl | rfl | rfl | rfl | rfl
  · rw [e1]
    have e : inZ f d 0 = some (0, colZ f - 1) := by unfold inZ; rw [if_neg (by simpa using hm)]; rfl
    rw [e] at e1
    cases e1
    exact ⟨g1, g2, by show w32 v.x; unfold w32; omega⟩
  · rw [e2]
    have e : inZ f d 1 = some (0, rowZ f - 1) := by unfold inZ; rw [if_neg (by simpa using hm)]; rfl
    rw [e] at e2
    cases e2
    exact ⟨g3, g4, by show w32 v.y; unfold w32; omega⟩
  · rw [e3]
    have e : inZ f d 2 = some (0, 3) := by unfold inZ; rw [if_neg (by simpa using hm)]; rfl
    rw [e] at e3
    cases e3
    exact ⟨g5, g6, by show w32 v.c; unfold w32; omega⟩
  · have e : inZ f d 3 = some (lowZ f d, lowZ f d) := by unfold inZ; rw [if_neg (by simpa using hm)]; rfl
    rw [e]; exact ⟨Int.le_refl _, Int.le_refl _, w1⟩
  · have e : inZ f d 4 = some (highZ f d, highZ f d) := by unfold inZ; rw [if_neg (by simpa using hm)]; rfl
    rw [e]; exact ⟨Int.le_refl _, Int.le_refl _, w2⟩
  · have e : inZ f d 5 = some (borderZ f d, borderZ f d) := by unfold inZ; rw [if_neg (by simpa using hm)]; rfl
    rw [e]; exact ⟨Int.le_refl _, Int.le_refl _, w3⟩

/-- One instruction: where its span is answered, it answers, and lies in it. -/
theorem vlI_in {f d : Int} {v : Wd} {V : List Int} {S : Sps} {n : In} (hm : May f d) (hF : Fits f d v) (hI : Inn V S) (ho : okI n S.length = true) (ha : ahI f d n = false) (h : (sgI f d S n).2 = 0) :
    (vlI f d v V n).2 = 0 ∧ (sgI f d S n).1.1 ≤ (vlI f d v V n).1 ∧ (vlI f d v V n).1 ≤ (sgI f d S n).1.2 ∧ w32 (vlI f d v V n).1 := by
  have hc := Cde.ok_con ho
  unfold vlI
  unfold sgI at h ⊢
  by_cases h1 : n.op = 1
  · rw [if_pos h1] at h ⊢
    rw [if_pos h1]
    rw [Cde.csB, if_pos h1, Bool.and_eq_true, YtijbmdmeiancgaaGreat.Spn.wd_iff] at hc
    exact ⟨rfl, Int.le_refl _, Int.le_refl _, hc.1⟩
  rw [if_neg h1] at h ⊢
  rw [if_neg h1]
  by_cases h2 : n.op = 2
  · rw [if_pos h2] at h ⊢
    rw [if_pos h2]
    rw [Cde.csB, if_neg h1, if_pos h2, Bool.and_eq_true, YtijbmdmeiancgaaGreat.Spn.inB_iff] at hc
    exact ⟨rfl, inp_in hm hF hc.1.1 hc.1.2⟩
  rw [if_neg h2] at h ⊢
  rw [if_neg h2]
  by_cases h3 : n.op = 3
  · rw [if_pos h3] at h ⊢
    rw [if_pos h3]
    rw [Cde.csB, if_neg h1, if_neg h2, if_pos h3, Bool.and_eq_true, YtijbmdmeiancgaaGreat.Spn.inB_iff] at hc
    have hk : ¬ countZ f d ≤ n.k := by
      intro hk
      have : ahI f d n = true := by unfold ahI; rw [h3]; simpa using hk
      rw [this] at ha; cases ha
    rw [if_neg hk]
    have hfl := Cde.fit_len hF
    have hl : n.k.toNat < v.ps.length := by omega
    have hmem := hF.2.2 (v.ps.getD n.k.toNat 0) (Cde.getD_mem 0 hl)
    obtain ⟨w1, w2, -⟩ := kd_bounds f d
    exact ⟨rfl, hmem.1, hmem.2, by unfold w32 at *; dsimp only; omega⟩
  rw [if_neg h3] at h ⊢
  rw [if_neg h3]
  obtain ⟨x, h5, h6, h7⟩ := YtijbmdmeiancgaaGreat.Spn.holds_all (Prod.ext rfl h : YtijbmdmeiancgaaGreat.Spn.ofZ n.op n.k n.s (asS S n) = ((_, _), 0)) (hI.ins (agL n) fun p hp => (ag_reg ho hp).2)
  have e : YtijbmdmeiancgaaGreat.Spn.valZ n.op n.k n.s (arV V n) = (x, 0) := h5
  rw [e]
  exact ⟨rfl, h6, h7, val_w32 h5⟩
theorem any_take {f d : Int} {L : List In} (h : L.any (ahI f d) = false) {k : Nat} (hk : k < L.length) : ahI f d (L.getD k i0) = false := by
  cases hb : ahI f d (L.getD k i0)
  · rfl
  · rw [ah_of hk hb] at h; cases h
/-- All of them. -/
theorem vlF_in {f d : Int} {v : Wd} {L : List In} (hm : May f d) (hF : Fits f d v) (hok : okT L L.length = true) (ha : L.any (ahI f d) = false) (h0 : (sgF f d L).1 = 0) :
    ∀ k, k ≤ L.length → ∃ V S, vlF f d v (L.take k) = (0, V) ∧ sgF f d (L.take k) = (0, S) ∧ Inn V S
  | 0, _ => ⟨[], [], rfl, rfl, rfl, fun i hi => by simp at hi⟩
  | k + 1, hk => by
    obtain ⟨V, S, h1, h2, h3⟩ := vlF_in hm hF hok ha h0 k (by omega)
    have hl : S.length = k := by
      have := sgF_len f d L k (by omega)
      rw [h2] at this
      exact this rfl
    have ho := Cde.okT_at hok (show k < L.length by omega)
    rw [← hl] at ho
    have hz : (sgI f d S (L.getD k i0)).2 = 0 := by
      by_cases hz : (sgI f d S (L.getD k i0)).2 = 0
      · exact hz
      · have e : sgF f d (L.take (k + 1)) = ((sgI f d S (L.getD k i0)).2, []) := by
          rw [Cde.take_snoc i0 (by omega), sgF_snoc, h2, sgS, if_pos rfl, if_neg hz]
        have := sgF_bad e hz
        rw [this] at h0
        exact absurd h0 hz
    rw [hl] at ho
    obtain ⟨a, b, c, e⟩ := vlI_in hm hF h3 (by rw [hl]; exact ho) (any_take ha (by omega)) hz
    refine ⟨V ++ [(vlI f d v V (L.getD k i0)).1], S ++ [(sgI f d S (L.getD k i0)).1], ?_, ?_, h3.snoc b c e⟩
    · rw [Cde.take_snoc i0 (by omega), Cde.vlF_snoc, h1, vlS, if_pos rfl, if_pos a]
    · rw [Cde.take_snoc i0 (by omega), sgF_snoc, h2, sgS, if_pos rfl, if_pos hz]
theorem co_pos {n : In} {i : Nat} (h : okI n i = true) : 1 ≤ coZ n.op := by
  have h4 : n.op ≠ 4 := by
    intro e
    have := Cde.ok_ar h
    rw [e] at this
    exact absurd this (by decide)
  unfold coZ
  rw [if_neg h4]
  repeat' split
  all_goals omega
theorem co_ge {L : List In} (hok : okT L L.length = true) : ∀ k : Nat, k ≤ L.length → (k : Int) ≤ coL (L.take k)
  | 0, _ => by simp [coL]
  | k + 1, hk => by
    have ih := co_ge hok k (by omega)
    have := co_pos (Cde.okT_at hok (show k < L.length by omega))
    rw [Cde.take_snoc i0 (by omega), Cde.coL_snoc]
    omega
/-- What is taken is harmless. -/
theorem vf_holds {f d : Int} {L : List In} {out : Int} (h : vfE f d L out = 0) : (L.length : Int) ≤ coL L ∧ coL L ≤ 200 ∧ ∀ v : Wd, Fits f d v → ∃ V, vaZ f d v L out = (0, V) ∧ Inn V (vfS f d L out) := by
  obtain ⟨m, ha, ⟨S, hS, hl, hs⟩, hc, -, -⟩ := vf_parts h
  obtain ⟨hm, -, -, -, -, hok⟩ := Cde.mc_parts m
  refine ⟨?_, hc, fun v hF => ?_⟩
  · have := co_ge hok L.length (Nat.le_refl _)
    rwa [List.take_length] at this
  · obtain ⟨V, S', h1, h2, h3⟩ := vlF_in hm hF hok ha (by rw [hS]) L.length (Nat.le_refl _)
    rw [List.take_length] at h1 h2
    rw [hS] at h2
    cases h2
    refine ⟨V, ?_, by rw [hs]; exact h3⟩
    rw [vaZ, if_pos m, if_pos hF]
    exact h1
theorem va_unfit {f d : Int} {L : List In} {out : Int} {v : Wd} (h : vfE f d L out = 0) (hF : ¬ Fits f d v) : vaZ f d v L out = (1, []) := by
  obtain ⟨m, -⟩ := vf_parts h
  rw [vaZ, if_pos m, if_neg hF]

end Go.Proofs.Vfy

/-
  Refusals, plainly: codes with instructions behind them.
-/
namespace Go.Proofs.Vfy
open Go.RowKit Go.IntWalk YtijbmdmeiancgaaGreat.Knd
open Cde (In i0 agL arN okI okT mcB coL coZ)
set_option linter.unusedVariables false

theorem in_whole {f d k : Int} (hm : May f d) (h0 : 0 ≤ k) (h5 : k ≤ 5) : YtijbmdmeiancgaaGreat.Spn.whP ((inZ f d k).getD (0, 0)) = true := by
  have hlh : lowZ f d ≤ highZ f d := by
    rcases kind3 f d with ⟨h, rfl⟩ | ⟨h, rfl⟩ | h
    · have := pw_le (d - 1) (by have := h.2.2; omega)
      obtain ⟨a, b, -⟩ := zs0 h
      omega
    · have := pw_le (d - 1) (by have := h.2.2; omega)
      obtain ⟨a, b, -⟩ := zs1 h
      omega
    · exact absurd hm h
  obtain ⟨w1, w2, w3⟩ := kd_bounds f d
  have hc : 1 ≤ colZ f ∧ colZ f ≤ 2000000 := by unfold colZ; split <;> omega
  have hr : 1 ≤ rowZ f ∧ rowZ f ≤ 2000000 := by unfold rowZ; split <;> omega
  unfold YtijbmdmeiancgaaGreat.Spn.whP
  rw [YtijbmdmeiancgaaGreat.Spn.whB_iff]
  unfold w32 at *
  rcases (show k = 0 ∨ k = 1 ∨ k = 2 ∨ k = 3 ∨ k = 4 ∨ k = 5 by omega) with rfl | rfl | rfl | rfl | rfl | rfl
  · rw [show inZ f d 0 = some (0, colZ f - 1) by unfold inZ; rw [if_neg (by simpa using hm)]; rfl]
    simp only [Option.getD_some]; omega
  · rw [show inZ f d 1 = some (0, rowZ f - 1) by unfold inZ; rw [if_neg (by simpa using hm)]; rfl]
    simp only [Option.getD_some]; omega
  · rw [show inZ f d 2 = some (0, 3) by unfold inZ; rw [if_neg (by simpa using hm)]; rfl]
    simp only [Option.getD_some]; omega
  · rw [show inZ f d 3 = some (lowZ f d, lowZ f d) by unfold inZ; rw [if_neg (by simpa using hm)]; rfl]
    simp only [Option.getD_some]; omega
  · rw [show inZ f d 4 = some (highZ f d, highZ f d) by unfold inZ; rw [if_neg (by simpa using hm)]; rfl]
    simp only [Option.getD_some]; omega
  · rw [show inZ f d 5 = some (borderZ f d, borderZ f d) by unfold inZ; rw [if_neg (by simpa using hm)]; rfl]
    simp only [Option.getD_some]; omega
theorem lh_whole {f d : Int} (hm : May f d) : YtijbmdmeiancgaaGreat.Spn.whP (lowZ f d, highZ f d) = true := by
  have h3 := in_whole hm (k := 3) (by omega) (by omega)
  have hlh : lowZ f d ≤ highZ f d := by
    rcases kind3 f d with ⟨h, rfl⟩ | ⟨h, rfl⟩ | h
    · have := pw_le (d - 1) (by have := h.2.2; omega)
      obtain ⟨a, b, -⟩ := zs0 h
      omega
    · have := pw_le (d - 1) (by have := h.2.2; omega)
      obtain ⟨a, b, -⟩ := zs1 h
      omega
    · exact absurd hm h
  obtain ⟨w1, w2, w3⟩ := kd_bounds f d
  unfold YtijbmdmeiancgaaGreat.Spn.whP
  rw [YtijbmdmeiancgaaGreat.Spn.whB_iff]
  unfold w32 at *
  dsimp only
  omega
/-- A register's span is whole. -/
theorem sgI_whole {f d : Int} {S : Sps} {n : In} {i : Nat} (hm : May f d) (ho : okI n i = true) (h : (sgI f d S n).2 = 0) : YtijbmdmeiancgaaGreat.Spn.whP (sgI f d S n).1 = true := by
  have hc := Cde.ok_con ho
  unfold sgI at h ⊢
  by_cases h1 : n.op = 1
  · rw [if_pos h1]
    rw [Cde.csB, if_pos h1, Bool.and_eq_true, YtijbmdmeiancgaaGreat.Spn.wd_iff] at hc
    unfold YtijbmdmeiancgaaGreat.Spn.whP
    rw [YtijbmdmeiancgaaGreat.Spn.whB_iff]
    dsimp only
    omega
  rw [if_neg h1] at h ⊢
  by_cases h2 : n.op = 2
  · rw [if_pos h2]
    rw [Cde.csB, if_neg h1, if_pos h2, Bool.and_eq_true, YtijbmdmeiancgaaGreat.Spn.inB_iff] at hc
    exact in_whole hm hc.1.1 hc.1.2
  rw [if_neg h2] at h ⊢
  by_cases h3 : n.op = 3
  · rw [if_pos h3]; exact lh_whole hm
  rw [if_neg h3] at h ⊢
  exact (YtijbmdmeiancgaaGreat.Spn.ofZ_inv (Prod.ext rfl h : YtijbmdmeiancgaaGreat.Spn.ofZ n.op n.k n.s (asS S n) = ((_, _), 0))).2.2
theorem sgF_whole {f d : Int} {L : List In} (hm : May f d) (hok : okT L L.length = true) : ∀ k, k ≤ L.length → ∀ S, sgF f d (L.take k) = (0, S) → ∀ p ∈ S, YtijbmdmeiancgaaGreat.Spn.whP p = true
  | 0, _, S, h, p, hp => by
    simp [sgF] at h
    subst h
    simp at hp
  | k + 1, hk, S, h, p, hp => by
    rw [Cde.take_snoc i0 (by omega), sgF_snoc] at h
    unfold sgS at h
    split at h
    · rename_i h0
      split at h
      · rename_i h1
        simp only [Prod.mk.injEq, true_and] at h
        subst h
        rcases List.mem_append.1 hp with hp | hp
        · exact sgF_whole hm hok k (by omega) _ (Prod.ext h0 rfl) p hp
        · simp at hp
          subst hp
          exact sgI_whole hm (Cde.okT_at hok (show k < L.length by omega)) h1
      · rename_i h1
        exact absurd (congrArg Prod.fst h) h1
    · rename_i h0
      exact absurd (congrArg Prod.fst h) h0

theorem getI_app {A B : List In} {j : Nat} : (A ++ B).getD (A.length + j) i0 = B.getD j i0 := by
  simp [List.getD_eq_getElem?_getD, List.getElem?_append_right]
theorem getI_pre {A B : List In} {j : Nat} (h : j < A.length) : (A ++ B).getD j i0 = A.getD j i0 := by
  rw [List.getD_eq_getElem?_getD, List.getElem?_append_left h, ← List.getD_eq_getElem?_getD]
theorem okT_app {A B : List In} (h : okT A A.length = true) (hB : ∀ j, j < B.length → okI (B.getD j i0) (A.length + j) = true) : okT (A ++ B) (A ++ B).length = true := by
  simp only [okT, List.all_eq_true, List.mem_range]
  intro i hi
  by_cases hA : i < A.length
  · rw [getI_pre hA]; exact Cde.okT_at h hA
  · obtain ⟨j, rfl⟩ : ∃ j, i = A.length + j := ⟨i - A.length, by omega⟩
    rw [getI_app]
    exact hB j (by simp at hi; omega)
theorem mc_app {f d : Int} {A B : List In} {out : Int} (h : mcB f d A out = true) (hl : A.length + B.length ≤ 200) (hB : ∀ j, j < B.length → okI (B.getD j i0) (A.length + j) = true) : mcB f d (A ++ B) out = true := by
  obtain ⟨h1, h2, h3, h4, h5, h6⟩ := Cde.mc_parts h
  simp only [mcB, Bool.and_eq_true, decide_eq_true_eq, YtijbmdmeiancgaaGreat.Spn.inB_iff, List.length_append]
  exact ⟨⟨⟨h1, by omega⟩, by omega⟩, by have := okT_app h6 hB; rwa [List.length_append] at this⟩

/-- What is put behind: a number, a division or rest, a place; a minus. -/
def nN : In := ⟨1, 0, 0, 0, 0, 0⟩
def nB (op i n : Int) : In := ⟨op, i, n, 0, 0, 0⟩
def nP (c : Int) : In := ⟨3, 0, 0, 0, c, 0⟩
def nM (i : Int) : In := ⟨5, i, 0, 0, 0, 0⟩
theorem rg_no (i : Int) : Cde.rgB 0 false i = true := rfl
theorem rg_yes {r : Int} {i : Nat} (h : 0 ≤ r) (h2 : r < i) : Cde.rgB r true i = true := by
  unfold Cde.rgB
  rw [if_pos rfl, YtijbmdmeiancgaaGreat.Spn.inB_iff]
  omega
theorem ok_N (i : Nat) : okI nN i = true := rfl
theorem ok_B {op i n : Int} {k : Nat} (ho : op = 11 ∨ op = 12) (h0 : 0 ≤ i) (h1 : i < k) (h2 : 0 ≤ n) (h3 : n < k) : okI (nB op i n) k = true := by
  have ha : YtijbmdmeiancgaaGreat.Spn.ar op = 2 := by rcases ho with rfl | rfl <;> decide
  unfold okI Cde.rgs nB
  dsimp only
  rw [ha, show decide ((0 : Int) < 2) = true from rfl, show decide ((1 : Int) < 2) = true from rfl, show decide ((2 : Int) < 2) = false from rfl, rg_yes h0 h1, rg_yes h2 h3, rg_no]
  rcases ho with rfl | rfl <;> rfl
theorem ok_P {c : Int} (i : Nat) (h0 : 0 ≤ c) (h1 : c ≤ 255) : okI (nP c) i = true := by
  unfold okI Cde.rgs nP Cde.csB
  dsimp only
  rw [if_neg (by decide), if_neg (by decide), if_pos rfl, YtijbmdmeiancgaaGreat.Spn.inB_iff.2 ⟨h0, h1⟩]
  rfl
theorem ok_M {i : Int} {k : Nat} (h0 : 0 ≤ i) (h1 : i < k) : okI (nM i) k = true := by
  unfold okI Cde.rgs nM
  dsimp only
  rw [show YtijbmdmeiancgaaGreat.Spn.ar 5 = 1 by decide, show decide ((0 : Int) < 1) = true from rfl, show decide ((1 : Int) < 1) = false from rfl, show decide ((2 : Int) < 1) = false from rfl, rg_yes h0 h1, rg_no]
  rfl
theorem bad_M {i : Int} {k : Nat} (h1 : (k : Int) ≤ i) : okI (nM i) k = false := by
  unfold okI Cde.rgs nM
  dsimp only
  rw [show YtijbmdmeiancgaaGreat.Spn.ar 5 = 1 by decide, show decide ((0 : Int) < 1) = true from rfl, show Cde.rgB i true k = false by
    unfold Cde.rgB; rw [if_pos rfl]
    cases h : YtijbmdmeiancgaaGreat.Spn.inB i 0 ((k : Int) - 1)
    · rfl
    · rw [YtijbmdmeiancgaaGreat.Spn.inB_iff] at h; omega]
  simp
theorem any_app {f d : Int} {A B : List In} : (A ++ B).any (ahI f d) = (A.any (ahI f d) || B.any (ahI f d)) := List.any_append

section
variable {f d : Int} {L : List In} {out i : Int} {N : Nat}
/-- A place that the kind hasn't, behind a division by zero. -/
theorem re_1 (h : vfE f d L out = 0) (hN : L.length = N) (hl : N ≤ 190) (h0 : 0 ≤ i) (h1 : i < N) : vfE f d (L ++ [nN, nB 11 i N, nP (countZ f d)]) out = 11 := by
  obtain ⟨m, ha, -⟩ := vf_parts h
  have hc : 0 ≤ countZ f d ∧ countZ f d ≤ 255 := by unfold countZ; repeat' split <;> omega
  have hm := mc_app (B := [nN, nB 11 i N, nP (countZ f d)]) m (by simp; omega) (fun j hj => by
    simp only [List.length_cons, List.length_nil] at hj
    rcases (show j = 0 ∨ j = 1 ∨ j = 2 by omega) with rfl | rfl | rfl
    · exact ok_N _
    · exact ok_B (.inl rfl) h0 (by omega) (by omega) (by omega)
    · exact ok_P _ hc.1 hc.2)
  have e : myE f d (L ++ [nN, nB 11 i N, nP (countZ f d)]) out = 11 := by
    unfold myE
    rw [if_pos hm, if_pos]
    rw [any_app]
    have : ahI f d (nP (countZ f d)) = true := by unfold ahI nP; simp
    simp [this]
  unfold vfE
  rw [e]
  rfl
theorem of_rest {p : Int × Int} (hp : YtijbmdmeiancgaaGreat.Spn.whP p = true) : (YtijbmdmeiancgaaGreat.Spn.ofZ 12 0 0 [p, (0, 0)]).2 = 12 := by
  have hs : YtijbmdmeiancgaaGreat.Spn.smayB 12 0 0 [p, (0, 0)] = true := by
    unfold YtijbmdmeiancgaaGreat.Spn.smayB
    rw [List.all_cons, hp]
    rfl
  unfold YtijbmdmeiancgaaGreat.Spn.ofZ
  rw [if_pos hs]
  rfl
theorem asS_B {S : Sps} {op : Int} (ho : op = 11 ∨ op = 12) {n : Int} : asS S (nB op i n) = [S.getD i.toNat (0, 0), S.getD n.toNat (0, 0)] := by
  have : arN (nB op i n) = 2 := by unfold arN nB; rcases ho with rfl | rfl <;> rfl
  unfold asS agL
  rw [this]
  rfl
theorem asS_M {S : Sps} : asS S (nM i) = [S.getD i.toNat (0, 0)] := by
  have : arN (nM i) = 1 := rfl
  unfold asS agL
  rw [this]
  rfl
/-- A rest by zero. -/
theorem re_2 (h : vfE f d L out = 0) (hN : L.length = N) (hl : N ≤ 190) (h0 : 0 ≤ i) (h1 : i < N) : vfE f d (L ++ [nN, nB 12 i N]) out = 12 := by
  obtain ⟨m, ha, ⟨S, hS, hSl, -⟩, -⟩ := vf_parts h
  obtain ⟨hmay, -, -, -, -, hok⟩ := Cde.mc_parts m
  have hm := mc_app (B := [nN, nB 12 i N]) m (by simp; omega) (fun j hj => by
    simp only [List.length_cons, List.length_nil] at hj
    rcases (show j = 0 ∨ j = 1 by omega) with rfl | rfl
    · exact ok_N _
    · exact ok_B (.inr rfl) h0 (by omega) (by omega) (by omega))
  have e : myE f d (L ++ [nN, nB 12 i N]) out = 0 := by
    rw [my_zero]
    refine ⟨hm, ?_⟩
    rw [any_app, ha]
    rfl
  have hw := sgF_whole hmay hok L.length (Nat.le_refl _) S (by rw [List.take_length]; exact hS)
  have hi : i.toNat < S.length := by omega
  have hp := hw _ (show S.getD i.toNat (0, 0) ∈ S by rw [List.getD_eq_getElem?_getD, List.getElem?_eq_getElem hi]; exact List.getElem_mem hi)
  have g1 : (S ++ [((0 : Int), (0 : Int))]).getD i.toNat (0, 0) = S.getD i.toNat (0, 0) := getS_pre hi
  have g2 : (S ++ [((0 : Int), (0 : Int))]).getD (N : Int).toNat (0, 0) = (0, 0) := by
    rw [Int.toNat_natCast, ← hN, ← hSl]; simp [List.getD_eq_getElem?_getD]
  have e2 : (sgF f d (L ++ [nN, nB 12 i N])).1 = 12 := by
    rw [sgF_app, hS]
    have s1 : sgS f d (0, S) nN = (0, S ++ [(0, 0)]) := by
      unfold sgS
      rw [if_pos rfl]
      rfl
    have s2 : (sgI f d (S ++ [(0, 0)]) (nB 12 i N)).2 = 12 := by
      show (YtijbmdmeiancgaaGreat.Spn.ofZ 12 0 0 (asS (S ++ [(0, 0)]) (nB 12 i N))).2 = 12
      rw [asS_B (.inr rfl), g1, g2]
      exact of_rest hp
    rw [List.foldl_cons, s1, List.foldl_cons, List.foldl_nil]
    unfold sgS
    rw [if_pos rfl, if_neg (by rw [s2]; decide)]
    exact s2
  unfold vfE
  rw [e, e2]
  rfl
/-- A register that isn't there. -/
theorem re_3 (hN : L.length = N) : vfE f d (L ++ [nM N]) out = 15 := by
  have hm : ¬ mcB f d (L ++ [nM N]) out = true := fun h => by
    have h6 := (Cde.mc_parts h).2.2.2.2.2
    have := Cde.okT_at h6 (k := L.length) (by simp)
    have e : (L ++ [nM N]).getD L.length i0 = nM N := getI_app (j := 0)
    rw [e, bad_M (by omega)] at this
    cases this
  have e : myE f d (L ++ [nM N]) out = 15 := by unfold myE; rw [if_neg hm]
  unfold vfE
  rw [e]
  rfl
theorem of_neg {p : Int × Int} (hp : YtijbmdmeiancgaaGreat.Spn.whP p = true) : (p.1 = -2147483648 → (YtijbmdmeiancgaaGreat.Spn.ofZ 5 0 0 [p]).2 = 13) ∧ (p.1 ≠ -2147483648 → (YtijbmdmeiancgaaGreat.Spn.ofZ 5 0 0 [p]).2 = 0) := by
  have hs : YtijbmdmeiancgaaGreat.Spn.smayB 5 0 0 [p] = true := by
    unfold YtijbmdmeiancgaaGreat.Spn.smayB
    rw [List.all_cons, hp]
    rfl
  have hb := YtijbmdmeiancgaaGreat.Spn.whB_iff.1 hp
  have e : YtijbmdmeiancgaaGreat.Spn.ofZ 5 0 0 [p] = YtijbmdmeiancgaaGreat.Spn.finZ ((-p.2, -p.1), 0) := by
    unfold YtijbmdmeiancgaaGreat.Spn.ofZ
    rw [if_pos hs]
    rfl
  rw [e]
  unfold YtijbmdmeiancgaaGreat.Spn.finZ
  rw [if_neg (by simp)]
  constructor
  · intro h
    rw [if_neg (by rw [YtijbmdmeiancgaaGreat.Spn.whB_iff]; dsimp only; omega)]
  · intro h
    rw [if_pos (by rw [YtijbmdmeiancgaaGreat.Spn.whB_iff]; dsimp only; omega)]
/-- A minus. -/
theorem re_4 (h : vfE f d L out = 0) (hN : L.length = N) (hl : N ≤ 190) (h0 : 0 ≤ i) (h1 : i < N) :
    (((vfS f d L out).getD i.toNat (0, 0)).1 = -2147483648 → vfE f d (L ++ [nM i]) out = 13) ∧ (((vfS f d L out).getD i.toNat (0, 0)).1 ≠ -2147483648 → (coL L < 200 → vfE f d (L ++ [nM i]) out = 0) ∧ (200 ≤ coL L → vfE f d (L ++ [nM i]) out = 14)) := by
  obtain ⟨m, ha, ⟨S, hS, hSl, hvs⟩, hco, -⟩ := vf_parts h
  rw [hvs]
  obtain ⟨hmay, -, -, -, -, hok⟩ := Cde.mc_parts m
  have hm := mc_app (B := [nM i]) m (by simp; omega) (fun j hj => by
    simp only [List.length_cons, List.length_nil] at hj
    obtain rfl : j = 0 := by omega
    exact ok_M h0 (by omega))
  have e : myE f d (L ++ [nM i]) out = 0 := by
    rw [my_zero]
    refine ⟨hm, ?_⟩
    rw [any_app, ha]
    rfl
  have hw := sgF_whole hmay hok L.length (Nat.le_refl _) S (by rw [List.take_length]; exact hS)
  have hi : i.toNat < S.length := by omega
  have hp := hw _ (show S.getD i.toNat (0, 0) ∈ S by rw [List.getD_eq_getElem?_getD, List.getElem?_eq_getElem hi]; exact List.getElem_mem hi)
  obtain ⟨q1, q2⟩ := of_neg hp
  have es : ∀ x, (YtijbmdmeiancgaaGreat.Spn.ofZ 5 0 0 [S.getD i.toNat (0, 0)]).2 = x → (sgF f d (L ++ [nM i])).1 = x := fun x hx => by
    have s2 : (sgI f d S (nM i)).2 = x := by
      show (YtijbmdmeiancgaaGreat.Spn.ofZ 5 0 0 (asS S (nM i))).2 = x
      rw [asS_M]
      exact hx
    rw [sgF_snoc, hS]
    unfold sgS
    rw [if_pos rfl]
    split
    · rename_i h; rw [← s2, h]
    · exact s2
  have hc : coL (L ++ [nM i]) = coL L + 1 := by rw [Cde.coL_snoc]; rfl
  refine ⟨fun hx => ?_, fun hx => ⟨fun hy => ?_, fun hy => ?_⟩⟩
  · unfold vfE
    rw [e, es _ (q1 hx)]
    rfl
  · rw [vf_zero]
    exact ⟨e, es _ (q2 hx), by omega⟩
  · unfold vfE
    rw [e, es _ (q2 hx), if_neg (by simp), if_neg (by simp), if_pos (by omega)]
end

end Go.Proofs.Vfy
