/-
  One place, one input: what Check and Eval answer of them, plainly.
-/
import Derived.Test.YtimdcmponhcngaaGreatZVaB
namespace Go.Proofs.YtimdcmponhcngaaGreat
open Lx Pz
set_option linter.unusedVariables false

abbrev plN (p : Knd.Plc) : Nd := lf 3 0 p.back p.coords p.x p.y
abbrev inN (k : Int) : Nd := lf 2 k 0 0 0 0

theorem fits_may {f d : Int} {v : Wd} (h : Fits f d v) : Knd.May f d := by
  obtain ⟨⟨⟨⟨lo, hi, hz, -⟩, -⟩, -⟩, -⟩ := h
  apply Classical.byContradiction
  intro hm
  unfold Knd.inZ at hz
  rw [if_pos hm] at hz
  cases hz
theorem may_cases {f d : Int} (h : Knd.May f d) : f = 0 ∨ f = 1 := h.1
theorem may18 : Knd.May 1 8 := by decide
theorem ck_one {f d : Int} {n : Nd} (hm : Knd.May f d) (hs : chkP [] [] [n] 0 = true) (ha : ahB f d n = false) (h : n.op = 2 ∨ n.op = 3) : ckE f d [] [] [n] 0 = 0 := by
  have e1 : (spN f d [] [] n).2 = 0 := by
    unfold spN
    rcases h with h | h
    · rw [if_neg (by omega), if_neg (by omega), if_pos h]
    · rw [if_neg (by omega), if_neg (by omega), if_neg (by omega), if_pos h]
  have hp : prts n = [] := by
    unfold prts
    rcases h with h | h
    · rw [h]; rfl
    · rw [h]; rfl
  refine ck_zero.2 ⟨hm, hs, by simp [ha], ?_, ?_, ?_⟩
  · simp only [spR]; rw [if_pos e1]
  · have := (coR_in [n]).2; simp only [List.length_cons, List.length_nil] at this; omega
  · simp only [dpR, dpN, hp]
    rw [if_neg (by omega)]
    decide
theorem ck_in {f d k : Int} (hm : Knd.May f d) (h0 : 0 ≤ k) (h5 : k ≤ 5) : ckE f d [] [] [inN k] 0 = 0 := by
  refine ck_one hm ?_ rfl (.inl rfl)
  rcases (show k = 0 ∨ k = 1 ∨ k = 2 ∨ k = 3 ∨ k = 4 ∨ k = 5 by omega) with rfl | rfl | rfl | rfl | rfl | rfl <;> decide +kernel
theorem pl_sound0 : ∀ i : Fin 44, chkP [] [] [plN ((Knd.plcs 0 8).getD i.val Knd.zp)] 0 = true ∧ Knd.numZ 0 8 ((Knd.plcs 0 8).getD i.val Knd.zp) = some i.val := by decide +kernel
theorem pl_sound1 : ∀ i : Fin 31, chkP [] [] [plN ((Knd.plcs 1 8).getD i.val Knd.zp)] 0 = true ∧ Knd.numZ 1 8 ((Knd.plcs 1 8).getD i.val Knd.zp) = some i.val := by decide +kernel
theorem pl_sound {f d : Int} (hm : Knd.May f d) {i : Nat} {p : Knd.Plc} (h : (Knd.plcs f d)[i]? = some p) : chkP [] [] [plN p] 0 = true ∧ Knd.numZ f d p = some i ∧ i < (Knd.plcs f d).length := by
  have hl := (List.getElem?_eq_some_iff.1 h).1
  have hc := Knd.plcs_len f d
  have hg : (Knd.plcs f d).getD i Knd.zp = p := by rw [List.getD_eq_getElem?_getD, h]; rfl
  rcases hm.1 with rfl | rfl
  · rw [(Knd.zs0 hm).2.2.2] at hc
    have := pl_sound0 ⟨i, by omega⟩
    rw [plcs_same hm may8] at hg
    simp only [hg] at this
    exact ⟨this.1, by rw [num_same hm may8]; exact this.2, hl⟩
  · rw [(Knd.zs1 hm).2.2.2] at hc
    have := pl_sound1 ⟨i, by omega⟩
    rw [plcs_same hm may18] at hg
    simp only [hg] at this
    exact ⟨this.1, by rw [num_same hm may18]; exact this.2, hl⟩
theorem pl_none {f d : Int} : ckE f d [] [] [plN Knd.zp] 0 ≠ 0 := by
  intro h
  have hm := (ck_zero.1 h).1
  obtain ⟨q, hq⟩ := ck_num h (n := plN Knd.zp) (by simp) rfl
  rcases hm.1 with rfl | rfl
  · rw [num_same hm may8] at hq
    revert hq
    rw [show Knd.numZ 0 8 (plOf (plN Knd.zp)) = none by decide +kernel]
    intro hq; cases hq
  · rw [num_same hm may18] at hq
    revert hq
    rw [show Knd.numZ 1 8 (plOf (plN Knd.zp)) = none by decide +kernel]
    intro hq; cases hq

/-- What Eval tells of the place with a number. -/
theorem look_bad {f d n : Int} {v : Wd} (h : ¬ (Fits f d v ∧ (Knd.atZ f d n).isSome = true)) : evE f d v [] [] [plN ((Knd.atZ f d n).getD Knd.zp)] 0 ≠ 0 ∧ evV f d v [] [] [plN ((Knd.atZ f d n).getD Knd.zp)] 0 = 0 := by
  have h1 : evE f d v [] [] [plN ((Knd.atZ f d n).getD Knd.zp)] 0 ≠ 0 := by
    intro h0
    obtain ⟨h2, h3⟩ := evE_zero.1 h0
    cases hz : Knd.atZ f d n with
    | some p => exact h ⟨h3, by rw [hz]; rfl⟩
    | none => rw [hz] at h2; exact pl_none h2
  exact ⟨h1, by unfold evV; rw [if_neg h1]⟩
theorem look_ok {f d n : Int} {v : Wd} (h : Fits f d v) (hs : (Knd.atZ f d n).isSome = true) : 0 ≤ n ∧ n.toNat < v.ps.length ∧ evE f d v [] [] [plN ((Knd.atZ f d n).getD Knd.zp)] 0 = 0 ∧ evV f d v [] [] [plN ((Knd.atZ f d n).getD Knd.zp)] 0 = v.ps.getD n.toNat 0 := by
  have hm := fits_may h
  cases hz : Knd.atZ f d n with
  | none => rw [hz] at hs; cases hs
  | some p =>
    unfold Knd.atZ at hz
    split at hz
    · rename_i h0
      obtain ⟨a1, a2, a3⟩ := pl_sound hm hz
      have hc := Knd.plcs_len f d
      have hl := h.2.1
      have he := evE_zero.2 ⟨ck_one hm a1 (by unfold ahB; rw [show plOf (plN p) = p from rfl, a2]; rfl) (.inr rfl), h⟩
      refine ⟨h0, by omega, he, ?_⟩
      unfold evV
      rw [Option.getD_some, if_pos he]
      simp only [vaR, List.nil_append]
      rw [show vaN f d v [] [] (plN p) = smpV f d v (plN p) from rfl]
      unfold smpV
      rw [show plOf (plN p) = p from rfl, a2]
      rfl
    · cases hz
theorem look_in {f d k : Int} {v : Wd} (h : Fits f d v) (h0 : 0 ≤ k) (h5 : k ≤ 5) : evE f d v [] (bdL [] 0) (nodesOf [] (.leaf (inN k))) (rootOf [] (.leaf (inN k))) = 0 ∧ evV f d v [] (bdL [] 0) (nodesOf [] (.leaf (inN k))) (rootOf [] (.leaf (inN k))) = inpV f d v k := by
  rw [show bdL [] 0 = [] from rfl, show nodesOf [] (.leaf (inN k)) = [inN k] from rfl, show rootOf [] (.leaf (inN k)) = 0 from rfl]
  have he := evE_zero.2 ⟨ck_in (fits_may h) h0 h5, h⟩
  refine ⟨he, ?_⟩
  unfold evV
  rw [if_pos he]
  rfl

/-- The inputs' words. -/
def inW : List Txt := [[120], [121], [99], [108, 111], [104, 105], [109, 105, 100]]
theorem in_ak : ∀ i : Fin 6, ak (inW.getD i.val []) = some [.word (inW.getD i.val [])] := by
  intro i
  have h : wrd (inW.getD i.val []) = true := by revert i; decide +kernel
  have := ak_wrd h [] fo_nil
  rw [List.append_nil] at this
  rw [this, ak_nil]
  rfl
theorem in_gp : ∀ i : Fin 6, GP [] [] [.word (inW.getD i.val [])] ([], [], .leaf (inN (i.val : Int))) := by
  intro i
  refine GP.last (G.ups (G.word ?_ ?_ ?_ ?_) (by omega) (by omega))
  · revert i; decide +kernel
  · revert i; decide +kernel
  · revert i; decide +kernel
  · exact match i with | ⟨0, _⟩ => rfl | ⟨1, _⟩ => rfl | ⟨2, _⟩ => rfl | ⟨3, _⟩ => rfl | ⟨4, _⟩ => rfl | ⟨5, _⟩ => rfl
theorem in_len : ∀ i : Fin 6, (sB (inW.getD i.val [])).size ≤ 1024 := by decide +kernel

end Go.Proofs.YtimdcmponhcngaaGreat
