/-
  Each node lies in its span, plainly.
-/
import Derived.Test.YtimdcmponhcngaaGreatZLk
import Derived.Test.YtimdcmponhcngaaGreatZSpH
namespace Go.Proofs.YtimdcmponhcngaaGreat
open Lx Pz
set_option linter.unusedVariables false

/-- Numbers that lie in spans, and have 32 bits. -/
def Inn (V : List Int) (S : Sps) : Prop := V.length = S.length ∧ ∀ i, i < S.length → (S.getD i (0, 0)).1 ≤ V.getD i 0 ∧ V.getD i 0 ≤ (S.getD i (0, 0)).2 ∧ w32 (V.getD i 0)
theorem Inn.snoc {V : List Int} {S : Sps} {x : Int} {p : Int × Int} (h : Inn V S) (h1 : p.1 ≤ x) (h2 : x ≤ p.2) (h3 : w32 x) : Inn (V ++ [x]) (S ++ [p]) := by
  have hl := h.1
  refine ⟨by simp [hl], fun i hi => ?_⟩
  simp only [List.length_append, List.length_cons, List.length_nil] at hi
  by_cases e : i < S.length
  · rw [getD_pre e, getI_pre (by omega)]
    exact h.2 i e
  · have e2 : i = S.length := by omega
    subst e2
    rw [show (S ++ [p]).getD S.length (0, 0) = p by simp [List.getD_eq_getElem?_getD], show (V ++ [x]).getD S.length 0 = x by rw [← hl]; simp [List.getD_eq_getElem?_getD]]
    exact ⟨h1, h2, h3⟩
theorem Inn.ins {V : List Int} {S : Sps} (h : Inn V S) : ∀ (P : List Int), (∀ p ∈ P, p.toNat < S.length) → Spn.Ins (P.map fun p => V.getD p.toNat 0) (P.map fun p => S.getD p.toNat (0, 0))
  | [], _ => trivial
  | p :: P, hp => by
    obtain ⟨h1, h2, -⟩ := h.2 p.toNat (hp p (by simp))
    exact ⟨⟨h1, h2⟩, Inn.ins h P fun q hq => hp q (by simp [hq])⟩
theorem kd_bounds (f d : Int) : w32 (Knd.lowZ f d) ∧ w32 (Knd.highZ f d) ∧ w32 (Knd.borderZ f d) := by
  rcases Knd.kind3 f d with ⟨hm, rfl⟩ | ⟨hm, rfl⟩ | hm
  · have := Knd.pw_le (d - 1) (by have := hm.2.2; omega)
    obtain ⟨a, b, c, -⟩ := Knd.zs0 hm
    rw [a, b, c]; unfold w32; omega
  · have := Knd.pw_le (d - 1) (by have := hm.2.2; omega)
    obtain ⟨a, b, c, -⟩ := Knd.zs1 hm
    rw [a, b, c]; unfold w32; omega
  · obtain ⟨a, b, c, -⟩ := Knd.zs2 hm
    rw [a, b, c]; unfold w32; omega
theorem val_w32 {op k s x : Int} {xs : List Int} (h : Spn.valZ op k s xs = (x, 0)) : w32 x := by
  unfold Spn.valZ at h
  split at h
  · split at h
    · split at h
      · rename_i hw
        cases h
        exact Spn.wd_iff.1 hw
      · cases h
    · rename_i h1
      exact absurd (congrArg Prod.snd h) h1
  · cases h
theorem col_row (f : Int) : Knd.colZ f ≤ 2147483647 ∧ Knd.rowZ f ≤ 2147483647 := by
  unfold Knd.colZ Knd.rowZ
  constructor <;> (repeat' split) <;> omega
theorem inp_in {f d k : Int} {v : Wd} (hF : Fits f d v) (h0 : 0 ≤ k) (h5 : k ≤ 5) : ((Knd.inZ f d k).getD (0, 0)).1 ≤ inpV f d v k ∧ inpV f d v k ≤ ((Knd.inZ f d k).getD (0, 0)).2 ∧ w32 (inpV f d v k) := by
  have hm := fits_may hF
  obtain ⟨⟨⟨⟨a1, a2, e1, g1, g2⟩, ⟨b1, b2, e2, g3, g4⟩⟩, ⟨c1, c2, e3, g5, g6⟩⟩, -⟩ := hF
  obtain ⟨w1, w2, w3⟩ := kd_bounds f d
  have hcr := col_row f
  rcases (show k = 0 ∨ k = 1 ∨ k = 2 ∨ k = 3 ∨ k = 4 ∨ k = 5 by omega) with rfl | rfl | rfl | rfl | rfl | rfl
  · rw [e1]
    have e : Knd.inZ f d 0 = some (0, Knd.colZ f - 1) := by unfold Knd.inZ; rw [if_neg (by simpa using hm)]; rfl
    rw [e] at e1
    cases e1
    exact ⟨g1, g2, by show w32 v.x; unfold w32; omega⟩
  · rw [e2]
    have e : Knd.inZ f d 1 = some (0, Knd.rowZ f - 1) := by unfold Knd.inZ; rw [if_neg (by simpa using hm)]; rfl
    rw [e] at e2
    cases e2
    exact ⟨g3, g4, by show w32 v.y; unfold w32; omega⟩
  · rw [e3]
    have e : Knd.inZ f d 2 = some (0, 3) := by unfold Knd.inZ; rw [if_neg (by simpa using hm)]; rfl
    rw [e] at e3
    cases e3
    exact ⟨g5, g6, by show w32 v.c; unfold w32; omega⟩
  · have e : Knd.inZ f d 3 = some (Knd.lowZ f d, Knd.lowZ f d) := by unfold Knd.inZ; rw [if_neg (by simpa using hm)]; rfl
    rw [e]; exact ⟨Int.le_refl _, Int.le_refl _, w1⟩
  · have e : Knd.inZ f d 4 = some (Knd.highZ f d, Knd.highZ f d) := by unfold Knd.inZ; rw [if_neg (by simpa using hm)]; rfl
    rw [e]; exact ⟨Int.le_refl _, Int.le_refl _, w2⟩
  · have e : Knd.inZ f d 5 = some (Knd.borderZ f d, Knd.borderZ f d) := by unfold Knd.inZ; rw [if_neg (by simpa using hm)]; rfl
    rw [e]; exact ⟨Int.le_refl _, Int.le_refl _, w3⟩
theorem smp_in {f d : Int} {v : Wd} {n : Nd} (hF : Fits f d v) (hn : ∃ q, Knd.numZ f d (plOf n) = some q) : Knd.lowZ f d ≤ smpV f d v n ∧ smpV f d v n ≤ Knd.highZ f d ∧ w32 (smpV f d v n) := by
  obtain ⟨q, hq⟩ := hn
  have hl := num_lt hF hq
  have h := hF.2.2 (smpV f d v n) (by
    unfold smpV
    rw [hq, Option.getD_some, List.getD_eq_getElem?_getD, List.getElem?_eq_getElem hl]
    exact List.getElem_mem hl)
  obtain ⟨w1, w2, -⟩ := kd_bounds f d
  exact ⟨h.1, h.2, by unfold w32 at *; omega⟩
theorem vaN_in {f d : Int} {v : Wd} {BS V : List Int} {S : Sps} {n : Nd} (hF : Fits f d v) (hI : Inn V S) (hn : Wn BS S.length n) (ha : n.op = 3 → ∃ q, Knd.numZ f d (plOf n) = some q) (h : (spN f d BS S n).2 = 0) :
    (spN f d BS S n).1.1 ≤ vaN f d v BS V n ∧ vaN f d v BS V n ≤ (spN f d BS S n).1.2 ∧ w32 (vaN f d v BS V n) := by
  unfold vaN
  unfold spN at h ⊢
  by_cases h4 : n.op = 4
  · rw [if_pos h4] at h ⊢
    rw [if_pos h4]
    exact hI.2 _ (hn.use h4).2.2.2
  rw [if_neg h4] at h ⊢
  rw [if_neg h4]
  by_cases h1 : n.op = 1
  · rw [if_pos h1] at h ⊢
    rw [if_pos h1]
    have := hn.num h1
    exact ⟨Int.le_refl _, Int.le_refl _, by unfold w32; omega⟩
  rw [if_neg h1] at h ⊢
  rw [if_neg h1]
  by_cases h2 : n.op = 2
  · rw [if_pos h2] at h ⊢
    rw [if_pos h2]
    exact inp_in hF (hn.inp h2).1 (hn.inp h2).2
  rw [if_neg h2] at h ⊢
  rw [if_neg h2]
  by_cases h3 : n.op = 3
  · rw [if_pos h3] at h ⊢
    rw [if_pos h3]
    exact smp_in hF (ha h3)
  rw [if_neg h3] at h ⊢
  rw [if_neg h3]
  obtain ⟨x, h5, h6, h7⟩ := Spn.holds_all (Prod.ext rfl h : Spn.ofZ n.op 0 0 ((prts n).map fun p => S.getD p.toNat (0, 0)) = ((_, _), 0)) (hI.ins (prts n) fun p hp => (hn.prt p hp).2)
  unfold opV
  rw [h5]
  exact ⟨h6, h7, val_w32 h5⟩
theorem vaR_in {f d : Int} {v : Wd} {BS : List Int} (hF : Fits f d v) : ∀ (NS : List Nd) (V : List Int) (S T : Sps), Inn V S → Wl BS S.length NS → (∀ n ∈ NS, n.op = 3 → ∃ q, Knd.numZ f d (plOf n) = some q) → spR f d BS NS S = (T, 0) → Inn (vaR f d v BS NS V) T
  | [], V, S, T, hI, _, _, h => by cases h; exact hI
  | n :: NS, V, S, T, hI, hw, ha, h => by
    simp only [spR] at h
    split at h
    · rename_i h1
      obtain ⟨a, b, c⟩ := vaN_in hF hI hw.1 (ha n (by simp)) h1
      exact vaR_in hF NS _ _ T (hI.snoc a b c) (by simpa using hw.2) (fun m hm => ha m (by simp [hm])) h
    · rename_i h1; exact absurd (congrArg Prod.snd h) h1
/-- Where the check takes a program and the window fits, each node lies in its span. -/
theorem holds_va {f d : Int} {v : Wd} {NM : List Txt} {BS : List Int} {NS : List Nd} {root : Int} (h : ckE f d NM BS NS root = 0) (hF : Fits f d v) : Inn (vaR f d v BS NS []) (spR f d BS NS []).1 := by
  obtain ⟨a1, a2, a3, a4, -⟩ := ck_zero.1 h
  obtain ⟨es, ex, hD⟩ := chk_dec.1 a2
  exact vaR_in hF NS [] [] _ ⟨rfl, fun i hi => by simp at hi⟩ hD.wl (fun n hn h3 => ck_num h hn h3) (Prod.ext rfl a4)

end Go.Proofs.YtimdcmponhcngaaGreat
