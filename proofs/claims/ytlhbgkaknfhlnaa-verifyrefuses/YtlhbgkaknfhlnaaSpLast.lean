/-
  A region that draws its order, whose last operation waits for all the others, and whose others are quiet: one walk of the others in the order of the text, and then the last one.
-/
import Derived.StillTail
import Derived.Lib.QuietBelow
namespace Go.Proofs.Ytlhbgkaknfhlnaa.Spn
open Go.RowKit Go.Sort Go
set_option linter.unusedVariables false

/-- Every operation waits only for operations that stand ahead of it. -/
def backB (ops : Array Oper) : Bool := (List.range ops.size).all fun j => ((ops[j]?).map fun o => o.after.all fun e => decide (e.on < j)).getD true
theorem backB_spec {ops : Array Oper} (h : backB ops = true) {j : Nat} {o : Oper} (ho : ops[j]? = some o) : ∀ e ∈ o.after, e.on < j := by
  intro e he
  have hj : j < ops.size := (Array.getElem?_eq_some_iff.1 ho).1
  have h1 := List.all_eq_true.1 h j (List.mem_range.2 hj)
  rw [ho] at h1
  simp only [Option.map_some, Option.getD_some] at h1
  simpa using Array.all_eq_true'.1 h1 e he
/-- Every guard stands among the first n. -/
def guardB (l : List Oper) : Bool := l.all fun o => match o.guard with | none => true | some (j, _) => decide (j < l.length)

theorem getD_in' {listed : Array Bool} {i : Nat} (hi : i < listed.size) (h : listed.getD i false ≠ true) : listed.getD i true = false := by
  simp [hi] at h ⊢; exact h

/-- Where something has not come up, something may come up. -/
theorem ready_ne {ops : Array Oper} {listed : Array Bool} (hb : backB ops = true) (hsz : listed.size = ops.size) : ∀ j, j < ops.size → listed.getD j true = false → Region.ready .any ops listed ≠ [] := by
  intro j
  induction j using Nat.strongRecOn with
  | _ j ih =>
    intro hj hun h0
    obtain ⟨o, ho⟩ : ∃ o, ops[j]? = some o := ⟨ops[j], by simp [hj]⟩
    by_cases hall : ∀ e ∈ o.after, Region.binds .any e = true → listed.getD e.on false = true
    · have : j ∈ Region.ready .any ops listed := mem_ready.2 ⟨hun, o, ho, hall⟩
      rw [h0] at this; cases this
    · simp only [Classical.not_forall] at hall
      obtain ⟨e, he, hbi, hne⟩ := hall
      have hlt := backB_spec hb ho e he
      exact ih e.on hlt (by omega) (getD_in' (by omega) hne) h0

theorem getD_push {listed : Array Bool} (k : Nat) : (listed.push false).getD k false = listed.getD k false := by
  rcases Nat.lt_trichotomy k listed.size with h | h | h
  · simp [Array.getElem?_push, Nat.ne_of_lt h]
  · subst h; simp
  · simp [Array.getElem?_push, Nat.ne_of_gt h]
theorem getD_push_lt {listed : Array Bool} {k : Nat} (b : Bool) (h : k < listed.size) : (listed.push false).getD k b = listed.getD k b := by
  simp [Array.getElem?_push, Nat.ne_of_lt h]

theorem set_push {x : Array Bool} {i : Nat} (hi : i < x.size) : (x.push false).setIfInBounds i true = (x.setIfInBounds i true).push false := by
  apply Array.ext_getElem?
  intro j
  rw [Array.getElem?_setIfInBounds, Array.getElem?_push, Array.getElem?_push, Array.getElem?_setIfInBounds, Array.size_push, Array.size_setIfInBounds]
  by_cases hij : i = j
  · subst hij
    rw [if_pos rfl, if_pos (by omega), if_neg (by omega), if_pos rfl, if_pos hi]
  · rw [if_neg hij, if_neg hij]

section
variable {l : List Oper} {o : Oper}

theorem ops_lt {i : Nat} (h : i < l.length) : (l ++ [o]).toArray[i]? = l.toArray[i]? := by simp [List.getElem?_append_left h]
theorem ops_last : (l ++ [o]).toArray[l.length]? = some o := by simp

theorem ready_lt {listed : Array Bool} (hsz : listed.size = l.length) {i : Nat} (hi : i < l.length) : i ∈ Region.ready .any (l ++ [o]).toArray (listed.push false) ↔ i ∈ Region.ready .any l.toArray listed := by
  rw [mem_ready, mem_ready, ops_lt hi, getD_push_lt true (by omega)]
  simp only [getD_push]

theorem wanted_same (hg : guardB l = true) {x : Oper} (hx : x ∈ l) (t : Array Value) : Region.wanted x (yielded (l ++ [o]).toArray t) = Region.wanted x (yielded l.toArray t) := by
  have h1 := List.all_eq_true.1 hg x hx
  unfold Region.wanted
  split
  · rfl
  · rename_i j want hj
    rw [hj] at h1
    simp only [decide_eq_true_eq] at h1
    unfold yielded
    rw [ops_lt h1]

theorem qOp_same {P : Program} {C : World → Prop} (hg : guardB l = true) {i : Nat} (hi : i < l.length) {K : Act → Prop} {a : Act} (h : qOp P l.toArray C i K a) : qOp P (l ++ [o]).toArray C i K a := by
  unfold qOp at *
  rw [ops_lt hi]
  have hx : l.toArray[i]? = some l[i] := by simp [hi]
  rw [hx] at h ⊢
  simp only at h ⊢
  rw [wanted_same hg (List.getElem_mem hi)]
  exact h

theorem all_listed {listed : Array Bool} (h : ∀ j, j < listed.size → listed.getD j true = true) (ops : Array Oper) : Region.ready .any ops listed = [] := by
  apply List.eq_nil_iff_forall_not_mem.2
  intro j hj
  obtain ⟨h1, -⟩ := mem_ready.1 hj
  rcases Nat.lt_or_ge j listed.size with h' | h'
  · rw [h j h'] at h1; cases h1
  · simp [Array.getElem?_eq_none h'] at h1

theorem wpAny_last {P : Program} {C : World → Prop} {Q : Exit → Act → World → Prop} (hog : o.guard = none) (hb0 : backB l.toArray = true) (hb : backB (l ++ [o]).toArray = true) (hg : guardB l = true)
    (hs : Region.sinkB .any (l ++ [o]).toArray l.length = true) (hc : Region.chainB .any (l ++ [o]).toArray l.length = true) :
    ∀ (fuel : Nat) (listed : Array Bool) (a : Act) (w : World), C w → listed.size = l.length → HeadInv .any (l ++ [o]).toArray l.length (listed.push false) →
      wpAnyQ P .any l.toArray C (fun a' => ∀ w', C w' → wpList P (l ++ [o]).toArray Q [o] a' w') fuel listed a →
      wpAny P .any (l ++ [o]).toArray Q (fuel + 1) (listed.push false) a w := by
  have hne : ∀ listed : Array Bool, listed.size = l.length → Region.ready .any (l ++ [o]).toArray (listed.push false) ≠ [] := fun listed hsz =>
    ready_ne hb (by simp [hsz]) l.length (by simp) (by simp [← hsz])
  have hend : ∀ (fuel : Nat) (listed : Array Bool) (a : Act) (w : World), listed.size = l.length → (∀ j, j < l.length → listed.getD j true = true) → Q .normal a w → wpAny P .any (l ++ [o]).toArray Q fuel ((listed.push false).setIfInBounds l.length true) a w := by
    intro fuel listed a w hsz hall hq
    have h0 : Region.ready .any (l ++ [o]).toArray ((listed.push false).setIfInBounds l.length true) = [] := by
      refine all_listed (fun j hj => ?_) _
      simp at hj
      by_cases hjl : j = l.length
      · subst hjl; simp [hsz]
      · rw [getD_set_ne true (Ne.symm hjl), getD_push_lt true (by omega)]
        exact hall j (by omega)
    cases fuel with
    | zero => exact ⟨h0, hq⟩
    | succ fuel => exact ⟨fun _ => hq, fun i hi => by rw [h0] at hi; cases hi⟩
  have hlast : ∀ (fuel : Nat) (listed : Array Bool) (a : Act) (w : World), listed.size = l.length → (∀ j, j < l.length → listed.getD j true = true) → wpList P (l ++ [o]).toArray Q [o] a w →
      wpOp P (l ++ [o]).toArray Q l.length (wpAny P .any (l ++ [o]).toArray Q fuel ((listed.push false).setIfInBounds l.length true)) a w := by
    intro fuel listed a w hsz hall hq
    unfold wpOp
    rw [ops_last]
    simp only [wpList, Region.wanted, hog, if_true] at hq ⊢
    exact hq.imp (Oper.wp_mono (fun a' w' h' => hend fuel listed a' w' hsz hall h')) id
  have hlist : ∀ listed : Array Bool, listed.size = l.length → Region.ready .any l.toArray listed = [] → ∀ j, j < l.length → listed.getD j true = true := fun listed hsz h0 j hj => by
    cases hv : listed.getD j true with
    | true => rfl
    | false => exact absurd h0 (ready_ne hb0 (by simpa using hsz) j (by simpa using hj) hv)
  have hle : ∀ (listed : Array Bool) (i : Nat), i ∈ Region.ready .any (l ++ [o]).toArray (listed.push false) → i < l.length ∨ i = l.length := fun listed i hi => by
    obtain ⟨-, oi, hoi, -⟩ := mem_ready.1 hi
    have := (Array.getElem?_eq_some_iff.1 hoi).1
    simp at this
    omega
  intro fuel
  induction fuel with
  | zero =>
    intro listed a w hw hsz inv h
    refine ⟨fun h0 => absurd h0 (hne listed hsz), fun i hi => ?_⟩
    have hall := hlist listed hsz h.1
    rcases hle listed i hi with hil | rfl
    · rw [ready_lt hsz hil, h.1] at hi; cases hi
    · exact hlast 0 listed a w hsz hall (h.2 w hw)
  | succ fuel ih =>
    intro listed a w hw hsz inv h
    refine ⟨fun h0 => absurd h0 (hne listed hsz), fun i hi => ?_⟩
    rcases hle listed i hi with hil | rfl
    · have hi0 := (ready_lt hsz hil).1 hi
      refine wpOp_of_qOp hw (fun a' w' hw' hk => ?_) (qOp_same hg hil (h.2 i hi0))
      have e := set_push (x := listed) (i := i) (by omega)
      have inv' := inv.set hi hil
      rw [e] at inv' ⊢
      exact ih (listed.setIfInBounds i true) a' w' hw' (by simpa using hsz) inv' hk
    · have hall : ∀ j, j < l.length → listed.getD j true = true := fun j hj => by
        cases hv : listed.getD j true with
        | true => rfl
        | false => exact absurd hi (tail_waits hs hc (by simp) inv (l.length - j) j rfl hj (by rw [getD_push_lt true (by omega)]; exact hv) l.length (Nat.le_refl _))
      exact hlast (fuel + 1) listed a w hsz hall (h.1 (all_listed (fun j hj => hall j (by omega)) _) w hw)

theorem wp_region_quiet_last {P : Program} {C : World → Prop} {id : Nat} {Q : Exit → Act → World → Prop} {a : Act} {w : World} (hm : P.follows .mixedOrders = true) (hB : Region.lexB .any l.toArray = true)
    (hog : o.guard = none) (hb0 : backB l.toArray = true) (hb : backB (l ++ [o]).toArray = true) (hg : guardB l = true)
    (hs : Region.sinkB .any (l ++ [o]).toArray l.length = true) (hc : Region.chainB .any (l ++ [o]).toArray l.length = true) (hC : C { w with drawn := w.drawn + 1 })
    (h : wpQuiet P l.toArray C (fun a' => ∀ w', C w' → wpList P (l ++ [o]).toArray Q [o] a' w') l a) : (Code.region id (l ++ [o]).toArray true).wp P Q a w := by
  simp only [Region.lexB, Bool.and_eq_true] at hB
  refine wp_region_any hm ?_
  have e : Array.replicate (l ++ [o]).toArray.size false = (Array.replicate l.length false).push false := by
    rw [← Array.replicate_succ]; simp
  rw [e, show (l ++ [o]).toArray.size = l.length + 1 by simp]
  refine wpAny_last hog hb0 hb hg hs hc l.length _ a _ hC (by simp) ?_ ?_
  · exact ⟨by simp, fun j oj _ hl => (by rw [← Array.replicate_succ, getD_replicate_false] at hl; cases hl), fun t _ ht => getD_in (by simpa using ht) (by rw [← Array.replicate_succ]; exact getD_replicate_false _ _)⟩
  · have := wpAnyQ_lex (P := P) (C := C) (md := .any) hB.1 l 0 (Array.replicate l.length false) a (by simp) (by simpa using hB.2) h
    simpa using this

theorem wp_region_quiet_last_lit {P : Program} {id : Nat} {Q : Exit → Act → World → Prop} {a : Act} {w : World} {full : List Oper} (hf : full = l ++ [o]) (hm : P.follows .mixedOrders = true) (hB : Region.lexB .any l.toArray = true)
    (hog : o.guard = none) (hb0 : backB l.toArray = true) (hb : backB (l ++ [o]).toArray = true) (hg : guardB l = true)
    (hs : Region.sinkB .any (l ++ [o]).toArray l.length = true) (hc : Region.chainB .any (l ++ [o]).toArray l.length = true)
    (h : wpQuiet P l.toArray (fun w' => ∃ p : Regrown, w' = grow (redrawn w p.d) p.os) (fun a' => ∀ w', (∃ p : Regrown, w' = grow (redrawn w p.d) p.os) → wpList P (l ++ [o]).toArray Q [o] a' w') l a) : (Code.region id full.toArray true).wp P Q a w := by
  subst hf
  exact wp_region_quiet_last hm hB hog hb0 hb hg hs hc ⟨⟨w.drawn + 1, #[]⟩, by rw [grow_empty]; rfl⟩ h
end

end Go.Proofs.Ytlhbgkaknfhlnaa.Spn
