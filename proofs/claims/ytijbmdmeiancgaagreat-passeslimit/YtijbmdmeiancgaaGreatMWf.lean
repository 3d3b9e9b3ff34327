/-
  A region that draws its order, by which of its operations are done, where only edges that bind count.
-/
import Derived.Test.YtijbmdmeiancgaaGreatMCdE
namespace Go.Proofs.Pss
open Go.RowKit Go.IntWalk YtijbmdmeiancgaaGreat.Knd
open Cde (cnt ready_mem wp_region_inv wpOp_list)
set_option linter.unusedVariables false

/-- A region that draws, by which of its operations are done; only edges that bind count. -/
theorem wp_region_flagsB {P : Program} {ops : Array Oper} {Q : Exit → Act → World → Prop} {id : Nat} {a : Act} {w : World} (hm : P.follows .mixedOrders = true)
    (hord : ∀ (i : Nat) (o : Oper), ops[i]? = some o → ∀ e ∈ o.after, Region.binds .any e = true → e.on < i) (I : (Nat → Bool) → Act → World → Prop)
    (h0 : I (fun _ => false) a { w with drawn := w.drawn + 1 })
    (hs : ∀ d a w i o, I d a w → d i = false → ops[i]? = some o → (∀ e ∈ o.after, Region.binds .any e = true → d e.on = true) → ∀ Q' : Exit → Act → World → Prop, (∀ a w, I (fun j => j == i || d j) a w → Q' .normal a w) → wpList P ops Q' [o] a w)
    (he : ∀ d a w, I d a w → (∀ i, i < ops.size → d i = true) → Q .normal a w) : (Code.region id ops true).wp P Q a w := by
  refine wp_region_inv hm (fun listed a w => listed.size = ops.size ∧ I (fun j => listed.getD j false) a w) ⟨by simp, ?_⟩ ?_ ?_
  · have : (fun j => (Array.replicate ops.size false).getD j false) = fun _ => false := by
      funext j
      simp only [Array.getD_eq_getD_getElem?, Array.getElem?_replicate]
      split <;> rfl
    rw [this]
    exact h0
  · rintro listed a w i ⟨hsz, hI⟩ hi
    obtain ⟨h1, h2, o, ho, h3⟩ := ready_mem hi
    refine wpOp_list ho fun Q' hk _ => ?_
    refine hs _ a w i o hI ?_ ho h3 Q' fun a w hI' => hk a w ⟨by simp [hsz], ?_⟩
    · have hlt : i < listed.size := by omega
      simpa [Array.getD_eq_getD_getElem?, hlt] using h2
    · have : (fun j => (listed.setIfInBounds i true).getD j false) = fun j => j == i || listed.getD j false := by
        funext j
        simp only [Array.getD_eq_getD_getElem?, Array.getElem?_setIfInBounds]
        by_cases hj : i = j
        · subst hj
          have hlt : i < listed.size := by omega
          simp [hlt]
        · have : (j == i) = false := by simpa using fun e => hj e.symm
          rw [if_neg hj, this]
          simp
      rw [this]
      exact hI'
  · rintro listed a w ⟨hsz, hI⟩ hr
    refine he _ a w hI ?_
    intro i
    induction i using Nat.strongRecOn with
    | _ i ih =>
      intro hi
      cases hd : listed.getD i false with
      | true => rfl
      | false =>
        exfalso
        have hm' : i ∈ Region.ready .any ops listed := by
          unfold Region.ready
          rw [List.mem_filter, List.mem_range]
          refine ⟨hi, ?_⟩
          have hlt : i < listed.size := by omega
          have e1 : listed.getD i true = false := by
            simpa [Array.getD_eq_getD_getElem?, hlt] using hd
          rw [e1]
          obtain ⟨o, ho⟩ : ∃ o, ops[i]? = some o := ⟨ops[i], Array.getElem?_eq_getElem hi⟩
          rw [ho]
          simp only [Option.map_some, Option.getD_some, Bool.not_false, Bool.true_and, Array.all_eq_true]
          intro k hk
          by_cases hb : Region.binds .any o.after[k] = true
          · have hlt2 := hord i o ho o.after[k] (Array.getElem_mem hk) hb
            have := ih o.after[k].on hlt2 (by omega)
            rw [this]
            simp
          · have hb2 : Region.binds .any o.after[k] = false := by simpa using hb
            rw [hb2]
            rfl
        rw [hr] at hm'
        cases hm'
/-- The check that each operation waits only for ones ahead. -/
theorem ord_ofB {ops : Array Oper} (h : (ops.toList.zipIdx.all fun x => x.1.after.all fun e => !(Region.binds .any e) || decide (e.on < x.2)) = true) : ∀ (i : Nat) (o : Oper), ops[i]? = some o → ∀ e ∈ o.after, Region.binds .any e = true → e.on < i := by
  intro i o ho e he hb
  rw [List.all_eq_true] at h
  have h1 := h (o, i) (by
    rw [List.mem_zipIdx_iff_getElem?]
    simpa using ho)
  rw [Array.all_eq_true] at h1
  obtain ⟨k, hk, rfl⟩ := Array.mem_iff_getElem.1 he
  have := h1 k hk
  rw [hb] at this
  simpa using this


theorem wp_flagsB3 {P : Program} {ops : Array Oper} {Q : Exit → Act → World → Prop} {id : Nat} {a : Act} {w : World} (hm : P.follows .mixedOrders = true)
    (hord : ∀ (i : Nat) (o : Oper), ops[i]? = some o → ∀ e ∈ o.after, Region.binds .any e = true → e.on < i) (I : Act → (Nat → Bool) → Act → World → Prop)
    (h0 : I a (fun _ => false) a { w with drawn := w.drawn + 1 })
    (hs : ∀ d A w i o, I a d A w → d i = false → ops[i]? = some o → (∀ e ∈ o.after, Region.binds .any e = true → d e.on = true) → ∀ Q' : Exit → Act → World → Prop, (∀ A w, I a (fun j => j == i || d j) A w → Q' .normal A w) → wpList P ops Q' [o] A w)
    (he : ∀ d A w, I a d A w → (∀ i, i < ops.size → d i = true) → Q .normal A w) : (Code.region id ops true).wp P Q a w := wp_region_flagsB hm hord (I a) h0 hs he

theorem ints_take {w : World} {a : Option Addr} {n c : Nat} {zs : List Int} (h : Ints w a n c zs) {k : Nat} (hk : k ≤ n) : Ints w a k c (zs.take k) := by
  have hl := h.len
  refine ⟨by rw [List.length_take]; omega, Nat.le_trans hk h.le, h.max, h.nil, ?_⟩
  by_cases h0 : k = 0
  · exact .inl h0
  · obtain ⟨b, off, ha, _, hc⟩ := h.at (by omega)
    refine .inr ⟨b, off, ha, fun i hi => ?_⟩
    rw [hc i (by omega)]
    simp [List.getD, hi]

end Go.Proofs.Pss
