/-
  Prune, plainly (ahead of the code): the registers on which the answer hangs.
-/
import Derived.Test.YtijbmdmeiancgaaGreatMRB
import Derived.Test.YtijbmdmeiancgaaGreatMRC
namespace Go.Proofs.Prn
open Go.RowKit Go.IntWalk YtijbmdmeiancgaaGreat.Knd
open YtijbmdmeiancgaaGreat (Wd wdA Fits inpV)
open Cde (In i0 agL arN okI okT mcB coL coZ vlI vlS vlF vaZ arV csB rgs rgB)
open Vfy (ahI vfE vf_parts w32 any_take sgF sgS sgI asS Inn vfS Sps)
open Fld (ar vl rg thI exR Rv gv In1)
open Rdc (coL_app)
set_option linter.unusedVariables false

/-- A register on which the answer hangs. -/
inductive Lv (L : List In) (out : Int) : Nat → Prop
  | ans : Lv L out out.toNat
  | arg {i : Nat} {r : Int} : Lv L out i → r ∈ agL (L.getD i i0) → Lv L out r.toNat
/-- Marks: one register's, and all of them, from the last down. -/
def mkA (B : List Bool) (P : List Int) : List Bool := P.foldl (fun B r => B.set r.toNat true) B
def lvS (L : List In) (B : List Bool) (i : Nat) : List Bool := if B.getD i false = true then mkA B (agL (L.getD i i0)) else B
def lvM (L : List In) (out : Int) : List Bool := ((List.range L.length).reverse).foldl (lvS L) ((List.replicate L.length false).set out.toNat true)
theorem mkA_len (P : List Int) : ∀ B : List Bool, (mkA B P).length = B.length := by
  induction P with
  | nil => intro B; rfl
  | cons r P ih => intro B; show (mkA (B.set r.toNat true) P).length = _; rw [ih, List.length_set]
theorem getB_set {B : List Bool} {r i : Nat} : (B.set r true).getD i false = if i = r ∧ r < B.length then true else B.getD i false := by
  rw [List.getD_eq_getElem?_getD, List.getElem?_set, List.getD_eq_getElem?_getD]
  by_cases e : r = i
  · subst e
    by_cases h : r < B.length
    · simp [h]
    · simp [h]
  · rw [if_neg e, if_neg (by omega)]
theorem mkA_get (P : List Int) : ∀ (B : List Bool) (i : Nat), (mkA B P).getD i false = true ↔ B.getD i false = true ∨ (i < B.length ∧ ∃ r ∈ P, r.toNat = i) := by
  induction P with
  | nil => intro B i; simp [mkA]
  | cons r P ih =>
    intro B i
    show (mkA (B.set r.toNat true) P).getD i false = true ↔ _
    rw [ih, getB_set, List.length_set]
    constructor
    · rintro (h | ⟨h1, q, h2, h3⟩)
      · split at h
        · rename_i e
          exact .inr ⟨by omega, r, by simp, e.1.symm⟩
        · exact .inl h
      · exact .inr ⟨h1, q, by simp [h2], h3⟩
    · rintro (h | ⟨h1, q, h2, h3⟩)
      · left
        split
        · rfl
        · exact h
      · rcases List.mem_cons.1 h2 with rfl | h2
        · left
          rw [if_pos ⟨h3.symm, by omega⟩]
        · exact .inr ⟨h1, q, h2, h3⟩
/-- What holds of marks from k on. -/
structure Mk (L : List In) (out : Int) (k : Nat) (B : List Bool) : Prop where
  len : B.length = L.length
  lv : ∀ i, B.getD i false = true → Lv L out i
  ans : B.getD out.toNat false = true
  cl : ∀ i, k ≤ i → i < L.length → B.getD i false = true → ∀ r ∈ agL (L.getD i i0), B.getD r.toNat false = true
theorem Mk.step {L : List In} {out : Int} {k : Nat} {B : List Bool} (h : Mk L out (k + 1) B) (hk : k < L.length) (ho : okI (L.getD k i0) k = true) : Mk L out k (lvS L B k) := by
  unfold lvS
  by_cases hb : B.getD k false = true
  · rw [if_pos hb]
    have hr : ∀ r ∈ agL (L.getD k i0), r.toNat < k := fun r hr => (Vfy.ag_reg ho hr).2
    refine ⟨by rw [mkA_len]; exact h.len, fun i hi => ?_, (mkA_get _ _ _).2 (.inl h.ans), fun i h1 h2 h3 r h4 => ?_⟩
    · rcases (mkA_get _ _ _).1 hi with h1 | ⟨-, r, h1, rfl⟩
      · exact h.lv i h1
      · exact .arg (h.lv k hb) h1
    · by_cases e : i = k
      · subst e
        exact (mkA_get _ _ _).2 (.inr ⟨by have := hr r h4; have := h.len; omega, r, h4, rfl⟩)
      · have hi : B.getD i false = true := by
          rcases (mkA_get _ _ _).1 h3 with h5 | ⟨-, q, h5, h6⟩
          · exact h5
          · have := hr q h5
            omega
        exact (mkA_get _ _ _).2 (.inl (h.cl i (by omega) h2 hi r h4))
  · rw [if_neg hb]
    refine ⟨h.len, h.lv, h.ans, fun i h1 h2 h3 r h4 => ?_⟩
    by_cases e : i = k
    · subst e; exact absurd h3 hb
    · exact h.cl i (by omega) h2 h3 r h4
theorem Mk.start {L : List In} {out : Int} (ho : out.toNat < L.length) : Mk L out L.length ((List.replicate L.length false).set out.toNat true) := by
  refine ⟨by simp, fun i hi => ?_, ?_, fun i h1 h2 => absurd h2 (by omega)⟩
  · rw [getB_set] at hi
    split at hi
    · rename_i e
      rw [e.1]; exact .ans
    · rw [List.getD_eq_getElem?_getD, List.getElem?_replicate] at hi
      split at hi <;> simp at hi
  · rw [getB_set, if_pos ⟨rfl, by simpa using ho⟩]
theorem Mk.down {L : List In} {out : Int} (hok : okT L L.length = true) : ∀ (k : Nat) (B : List Bool), k ≤ L.length → Mk L out k B → Mk L out 0 (((List.range k).reverse).foldl (lvS L) B)
  | 0, B, _, h => by simpa using h
  | k + 1, B, hk, h => by
    rw [List.range_succ, List.reverse_append]
    show Mk L out 0 (((List.range k).reverse).foldl (lvS L) (lvS L B k))
    exact Mk.down hok k _ (by omega) (h.step (by omega) (Cde.okT_at hok (by omega)))
theorem lvM_mk {L : List In} {out : Int} (hok : okT L L.length = true) (ho : out.toNat < L.length) : Mk L out 0 (lvM L out) := Mk.down hok L.length _ (Nat.le_refl _) (Mk.start ho)
/-- Marks that are closed and no more than need be are the registers on which the answer hangs. -/
theorem Mk.iff {L : List In} {out : Int} {B : List Bool} (h : Mk L out 0 B) (hok : okT L L.length = true) (ho : out.toNat < L.length) (i : Nat) : B.getD i false = true ↔ Lv L out i := by
  refine ⟨h.lv i, fun hl => ?_⟩
  have : B.getD i false = true ∧ i < L.length := by
    induction hl with
    | ans => exact ⟨h.ans, ho⟩
    | @arg j r h1 h2 ih => exact ⟨h.cl j (Nat.zero_le _) ih.2 ih.1 r h2, by have := (Vfy.ag_reg (Cde.okT_at hok ih.2) h2).2; omega⟩
  exact this.1
theorem lv_le {L : List In} {out : Int} (hok : okT L L.length = true) (ho : out.toNat < L.length) {i : Nat} (h : Lv L out i) : i ≤ out.toNat := by
  have : i ≤ out.toNat ∧ i < L.length := by
    induction h with
    | ans => exact ⟨Nat.le_refl _, ho⟩
    | @arg j r h1 h2 ih =>
      have := (Vfy.ag_reg (Cde.okT_at hok ih.2) h2).2
      exact ⟨by omega, by omega⟩
  exact this.1
/-- The registers, rising; their places among them; the new code. -/
def lvL (L : List In) (out : Int) : List Nat := (List.range L.length).filter fun i => (lvM L out).getD i false
def toL (L : List In) (out : Int) : List Int := (List.range L.length).map fun i => if (lvM L out).getD i false = true then (((lvL L out).idxOf i : Nat) : Int) else 0
def prN (L : List In) (out : Int) : List In := (lvL L out).map fun i => thI (L.getD i i0) (toL L out)
def prO (L : List In) (out : Int) : Int := (toL L out).getD out.toNat 0
theorem lvL_mem {L : List In} {out : Int} (hok : okT L L.length = true) (ho : out.toNat < L.length) {i : Nat} : i ∈ lvL L out ↔ i < L.length ∧ Lv L out i := by
  unfold lvL
  rw [List.mem_filter, List.mem_range]
  exact and_congr_right fun _ => (lvM_mk hok ho).iff hok ho i
theorem toL_at {L : List In} {out : Int} {i : Nat} (hi : i ∈ lvL L out) : (toL L out).getD i 0 = (((lvL L out).idxOf i : Nat) : Int) ∧ (lvL L out).idxOf i < (lvL L out).length ∧ (lvL L out).getD ((lvL L out).idxOf i) 0 = i := by
  have h := hi
  unfold lvL at h
  rw [List.mem_filter, List.mem_range] at h
  have hlt := List.idxOf_lt_length_of_mem hi
  refine ⟨?_, hlt, ?_⟩
  · unfold toL
    rw [List.getD_eq_getElem?_getD, List.getElem?_map, List.getElem?_range h.1]
    show (if (lvM L out).getD i false = true then _ else _) = _
    rw [if_pos h.2]
  · rw [List.getD_eq_getElem?_getD, List.getElem?_eq_getElem hlt]
    simp

end Go.Proofs.Prn

/-
  Prune, plainly (ahead of the code): the new code may be, has the values, and is taken.
-/
namespace Go.Proofs.Prn
open Go.RowKit Go.IntWalk YtijbmdmeiancgaaGreat.Knd
open YtijbmdmeiancgaaGreat (Wd wdA Fits inpV)
open Cde (In i0 agL arN okI okT mcB coL coZ vlI vlS vlF vaZ arV csB rgs rgB)
open Vfy (ahI vfE vf_parts w32 any_take sgF sgS sgI asS Inn vfS Sps)
open Fld (ar vl rg thI exR Rv gv In1 ag1 ag2 ag3 av1 av2 av3 rg_in)
open Rdc (coL_app)
set_option linter.unusedVariables false

theorem th_agL (n : In) (T : List Int) : agL (thI n T) = (agL n).map (exR T) := by
  rcases Cde.ar_five n.op with e | e | e | e | e
  · have e1 : agL n = [] := by unfold agL arN; rw [e]; rfl
    have e2 : agL (thI n T) = [] := by unfold agL arN; rw [show YtijbmdmeiancgaaGreat.Spn.ar (thI n T).op = -1 from e]; rfl
    rw [e1, e2]; rfl
  · have e1 : agL n = [] := by unfold agL arN; rw [e]; rfl
    have e2 : agL (thI n T) = [] := by unfold agL arN; rw [show YtijbmdmeiancgaaGreat.Spn.ar (thI n T).op = 0 from e]; rfl
    rw [e1, e2]; rfl
  · have e' : ar n.op = 1 := e
    rw [ag1 e', ag1 (n := thI n T) e']
    have ea : (thI n T).a = exR T n.a := by show (if 0 < ar n.op then exR T n.a else n.a) = _; rw [if_pos (by omega)]
    rw [ea]; rfl
  · have e' : ar n.op = 2 := e
    rw [ag2 e', ag2 (n := thI n T) e']
    have ea : (thI n T).a = exR T n.a := by show (if 0 < ar n.op then exR T n.a else n.a) = _; rw [if_pos (by omega)]
    have eb : (thI n T).b = exR T n.b := by show (if 1 < ar n.op then exR T n.b else n.b) = _; rw [if_pos (by omega)]
    rw [ea, eb]; rfl
  · have e' : ar n.op = 3 := e
    rw [ag3 e', ag3 (n := thI n T) e']
    have ea : (thI n T).a = exR T n.a := by show (if 0 < ar n.op then exR T n.a else n.a) = _; rw [if_pos (by omega)]
    have eb : (thI n T).b = exR T n.b := by show (if 1 < ar n.op then exR T n.b else n.b) = _; rw [if_pos (by omega)]
    have ec : (thI n T).c = exR T n.c := by show (if 2 < ar n.op then exR T n.c else n.c) = _; rw [if_pos (by omega)]
    rw [ea, eb, ec]; rfl
theorem th_okA {n : In} {T : List Int} {k m : Nat} (h : ∀ r ∈ agL n, In1 (exR T r) m) (ho : okI n k = true) : okI (thI n T) m = true := by
  have hc := Cde.ok_con ho
  have ha := Cde.ok_ar ho
  simp only [okI, rgs, Bool.and_eq_true, rg_in] at ho
  obtain ⟨⟨-, ⟨⟨a1, a2⟩, b1, b2⟩, c1, c2⟩, -⟩ := ho
  simp only [decide_eq_true_eq, decide_eq_false_iff_not] at a1 a2 b1 b2 c1 c2
  have hc' : csB (thI n T) = true := hc
  have ma : 0 < ar n.op → n.a ∈ agL n := fun u => by
    rcases Cde.ar_five n.op with e | e | e | e | e
    · have : ar n.op = -1 := e; omega
    · have : ar n.op = 0 := e; omega
    · rw [ag1 e]; simp
    · rw [ag2 e]; simp
    · rw [ag3 e]; simp
  have mb : 1 < ar n.op → n.b ∈ agL n := fun u => by
    rcases Cde.ar_five n.op with e | e | e | e | e
    · have : ar n.op = -1 := e; omega
    · have : ar n.op = 0 := e; omega
    · have : ar n.op = 1 := e; omega
    · rw [ag2 e]; simp
    · rw [ag3 e]; simp
  have mc : 2 < ar n.op → n.c ∈ agL n := fun u => by
    rcases Cde.ar_five n.op with e | e | e | e | e
    · have : ar n.op = -1 := e; omega
    · have : ar n.op = 0 := e; omega
    · have : ar n.op = 1 := e; omega
    · have : ar n.op = 2 := e; omega
    · rw [ag3 e]; simp
  simp only [okI, rgs, Bool.and_eq_true, rg_in, hc', decide_eq_true_eq, decide_eq_false_iff_not]
  refine ⟨⟨ha, ⟨⟨fun u => ?_, fun u => ?_⟩, fun u => ?_, fun u => ?_⟩, fun u => ?_, fun u => ?_⟩, trivial⟩
  · show In1 (if 0 < ar n.op then exR T n.a else n.a) m
    rw [if_pos (show 0 < ar n.op from u)]; exact h _ (ma u)
  · show (if 0 < ar n.op then exR T n.a else n.a) = 0
    rw [if_neg (show ¬ 0 < ar n.op from u)]; exact a2 u
  · show In1 (if 1 < ar n.op then exR T n.b else n.b) m
    rw [if_pos (show 1 < ar n.op from u)]; exact h _ (mb u)
  · show (if 1 < ar n.op then exR T n.b else n.b) = 0
    rw [if_neg (show ¬ 1 < ar n.op from u)]; exact b2 u
  · show In1 (if 2 < ar n.op then exR T n.c else n.c) m
    rw [if_pos (show 2 < ar n.op from u)]; exact h _ (mc u)
  · show (if 2 < ar n.op then exR T n.c else n.c) = 0
    rw [if_neg (show ¬ 2 < ar n.op from u)]; exact c2 u
theorem lvL_sorted (L : List In) (out : Int) : (lvL L out).Pairwise (· < ·) := List.Pairwise.filter _ List.pairwise_lt_range
theorem lvL_lt {L : List In} {out : Int} {p q : Nat} (hp : p < (lvL L out).length) (hq : q < (lvL L out).length) (h : (lvL L out).getD p 0 < (lvL L out).getD q 0) : p < q := by
  rcases Nat.lt_trichotomy p q with e | e | e
  · exact e
  · subst e; omega
  · have := List.pairwise_iff_getElem.1 (lvL_sorted L out) q p hq hp e
    rw [List.getD_eq_getElem?_getD, List.getElem?_eq_getElem hp, List.getD_eq_getElem?_getD, List.getElem?_eq_getElem hq] at h
    simp at h
    omega
theorem toL_len (L : List In) (out : Int) : (toL L out).length = L.length := by simp [toL]
theorem prN_len (L : List In) (out : Int) : (prN L out).length = (lvL L out).length := by simp [prN]
/-- A code that may be. -/
structure Pc (L : List In) (out : Int) : Prop where
  ok : okT L L.length = true
  o0 : 0 ≤ out
  o1 : out.toNat < L.length
theorem Pc.mem {L : List In} {out : Int} (h : Pc L out) {j : Nat} (hj : j < (lvL L out).length) : (lvL L out).getD j 0 < L.length ∧ Lv L out ((lvL L out).getD j 0) := by
  have : (lvL L out).getD j 0 ∈ lvL L out := by rw [List.getD_eq_getElem?_getD, List.getElem?_eq_getElem hj]; exact List.getElem_mem _
  exact (lvL_mem h.ok h.o1).1 this
/-- The place of a register that a live one reads. -/
theorem Pc.reg {L : List In} {out : Int} (h : Pc L out) {j : Nat} (hj : j < (lvL L out).length) {r : Int} (hr : r ∈ agL (L.getD ((lvL L out).getD j 0) i0)) :
    0 ≤ r ∧ r.toNat ∈ lvL L out ∧ exR (toL L out) r = (((lvL L out).idxOf r.toNat : Nat) : Int) ∧ (lvL L out).idxOf r.toNat < j ∧ (lvL L out).getD ((lvL L out).idxOf r.toNat) 0 = r.toNat := by
  obtain ⟨h1, h2⟩ := h.mem hj
  obtain ⟨r0, r1⟩ := Vfy.ag_reg (Cde.okT_at h.ok h1) hr
  have hm : r.toNat ∈ lvL L out := (lvL_mem h.ok h.o1).2 ⟨by omega, .arg h2 hr⟩
  obtain ⟨t1, t2, t3⟩ := toL_at hm
  refine ⟨r0, hm, ?_, lvL_lt t2 hj (by rw [t3]; exact r1), t3⟩
  unfold exR
  rw [toL_len, if_neg (by omega), t1]
theorem prN_at {L : List In} {out : Int} {j : Nat} (hj : j < (lvL L out).length) : (prN L out).getD j i0 = thI (L.getD ((lvL L out).getD j 0) i0) (toL L out) := by
  unfold prN
  rw [List.getD_eq_getElem?_getD, List.getElem?_map, List.getD_eq_getElem?_getD (l := lvL L out), List.getElem?_eq_getElem hj]
  rfl
theorem Pc.okN {L : List In} {out : Int} (h : Pc L out) {j : Nat} (hj : j < (lvL L out).length) : okI ((prN L out).getD j i0) j = true := by
  rw [prN_at hj]
  refine th_okA (fun r hr => ?_) (Cde.okT_at h.ok (h.mem hj).1)
  obtain ⟨-, -, e, e2, -⟩ := h.reg hj hr
  rw [e]
  exact ⟨by omega, by simpa using e2⟩
/-- Each register has its value. -/
theorem Pc.vals {L : List In} {out : Int} (h : Pc L out) {f d : Int} {v : Wd} {V : List Int} (hV : Rv f d v L V) : Rv f d v (prN L out) ((lvL L out).map fun i => V.getD i 0) := by
  have hget : ∀ j, j < (lvL L out).length → ((lvL L out).map fun i => V.getD i 0).getD j 0 = V.getD ((lvL L out).getD j 0) 0 := fun j hj => by
    rw [List.getD_eq_getElem?_getD, List.getElem?_map, List.getD_eq_getElem?_getD (l := lvL L out), List.getElem?_eq_getElem hj]
    rfl
  refine ⟨by simp [prN], fun j hj => ?_, fun j hj => ?_⟩
  · exact h.okN (by rw [prN_len] at hj; exact hj)
  · rw [prN_len] at hj
    obtain ⟨h1, h2⟩ := h.mem hj
    have hv := hV.val _ h1
    rw [prN_at hj, hget j hj, ← hv]
    unfold vlI
    have e : arV ((lvL L out).map fun i => V.getD i 0) (thI (L.getD ((lvL L out).getD j 0) i0) (toL L out)) = arV V (L.getD ((lvL L out).getD j 0) i0) := by
      unfold arV
      rw [th_agL, List.map_map]
      apply List.map_congr_left
      intro r hr
      obtain ⟨-, -, e, e2, e3⟩ := h.reg hj hr
      show ((lvL L out).map fun i => V.getD i 0).getD (exR (toL L out) r).toNat 0 = V.getD r.toNat 0
      rw [e, Int.toNat_natCast, hget _ (by omega), e3]
    rw [e]
    rfl

end Go.Proofs.Prn

/-
  Prune, plainly (ahead of the code): the spans and the cost of the new code; it is taken, and answers the same.
-/
namespace Go.Proofs.Prn
open Go.RowKit Go.IntWalk YtijbmdmeiancgaaGreat.Knd
open YtijbmdmeiancgaaGreat (Wd wdA Fits inpV)
open Cde (In i0 agL arN okI okT mcB coL coZ vlI vlS vlF vaZ arV csB rgs rgB)
open Vfy (ahI vfE vf_parts w32 any_take sgF sgS sgI asS Inn vfS Sps)
open Fld (ar vl rg thI exR Rv gv In1 ag1 ag2 ag3 av1 av2 av3 rg_in)
open Rdc (coL_app)
set_option linter.unusedVariables false

/-! ## Spans, each for itself -/
theorem sg_pre0 {f d : Int} {L : List In} {S : Sps} (h : sgF f d L = (0, S)) (k : Nat) : (sgF f d (L.take k)).1 = 0 := by
  by_cases hc : (sgF f d (L.take k)).1 = 0
  · exact hc
  · have e := Vfy.sgF_bad (L := L) (k := k) rfl hc
    rw [h] at e
    rw [← e] at hc
    exact absurd rfl hc
theorem sg_each {f d : Int} {L : List In} {S : Sps} (hok : okT L L.length = true) (h : sgF f d L = (0, S)) {i : Nat} (hi : i < L.length) : sgI f d S (L.getD i i0) = (S.getD i (0, 0), 0) := by
  have e1 := sg_pre0 h i
  have e2 := sg_pre0 h (i + 1)
  have l1 := Vfy.sgF_len f d L i (by omega) e1
  have q1 : sgF f d (L.take i) = (0, (sgF f d (L.take i)).2) := Prod.ext e1 rfl
  generalize (sgF f d (L.take i)).2 = A at q1 l1
  rw [Cde.take_snoc i0 hi, Vfy.sgF_snoc, q1, sgS, if_pos rfl] at e2
  have hn : (sgI f d A (L.getD i i0)).2 = 0 := by
    by_cases hc : (sgI f d A (L.getD i i0)).2 = 0
    · exact hc
    · rw [if_neg hc] at e2; exact e2
  have q2 := Rdc.sg_step (n := L.getD i i0) (s := (sgI f d A (L.getD i i0)).1) q1 (Prod.ext rfl hn)
  rw [← Cde.take_snoc i0 hi] at q2
  obtain ⟨Z, hZ⟩ := Rdc.sg_pre (L.drop (i + 1)) (L.take (i + 1)) _ S q2 (by rw [List.take_append_drop]; exact h)
  have e3 : sgI f d S (L.getD i i0) = sgI f d A (L.getD i i0) := by
    rw [hZ, List.append_assoc]; exact Vfy.sgI_pre (by rw [l1]; exact Cde.okT_at hok hi)
  have e4 : S.getD i (0, 0) = (sgI f d A (L.getD i i0)).1 := by
    rw [hZ]
    simp [List.getD_eq_getElem?_getD, ← l1]
  rw [e3, e4]
  exact Prod.ext rfl hn
theorem sg_build {f d : Int} {L : List In} {S : Sps} (hok : ∀ i, i < L.length → okI (L.getD i i0) i = true) (hl : S.length = L.length) (h : ∀ i, i < L.length → sgI f d S (L.getD i i0) = (S.getD i (0, 0), 0)) : ∀ k, k ≤ L.length → sgF f d (L.take k) = (0, S.take k)
  | 0, _ => by simp [sgF]
  | k + 1, hk => by
    have ih := sg_build hok hl h k (by omega)
    rw [Cde.take_snoc i0 (by omega), Cde.take_snoc (0, 0) (by omega)]
    refine Rdc.sg_step ih ?_
    rw [← h k (by omega)]
    have e := Vfy.sgI_pre (f := f) (d := d) (S := S.take k) (Z := S.drop k) (n := L.getD k i0) (by rw [List.length_take, Nat.min_eq_left (by omega)]; exact hok k (by omega))
    rw [List.take_append_drop] at e
    exact e.symm
theorem sg_all {f d : Int} {L : List In} {S : Sps} (hok : ∀ i, i < L.length → okI (L.getD i i0) i = true) (hl : S.length = L.length) (h : ∀ i, i < L.length → sgI f d S (L.getD i i0) = (S.getD i (0, 0), 0)) : sgF f d L = (0, S) := by
  have := sg_build hok hl h L.length (Nat.le_refl _)
  rwa [List.take_length, ← hl, List.take_length] at this
theorem Pc.okA {L : List In} {out : Int} (h : Pc L out) : ∀ j, j < (prN L out).length → okI ((prN L out).getD j i0) j = true := fun j hj => h.okN (by rw [prN_len] at hj; exact hj)
/-- The spans of the new code. -/
theorem Pc.sgs {L : List In} {out : Int} (h : Pc L out) {f d : Int} {S : Sps} (hS : sgF f d L = (0, S)) : sgF f d (prN L out) = (0, (lvL L out).map fun i => S.getD i (0, 0)) := by
  have hget : ∀ j, j < (lvL L out).length → ((lvL L out).map fun i => S.getD i (0, 0)).getD j (0, 0) = S.getD ((lvL L out).getD j 0) (0, 0) := fun j hj => by
    rw [List.getD_eq_getElem?_getD, List.getElem?_map, List.getD_eq_getElem?_getD (l := lvL L out), List.getElem?_eq_getElem hj]
    rfl
  refine sg_all h.okA (by simp [prN]) fun j hj => ?_
  rw [prN_len] at hj
  obtain ⟨h1, h2⟩ := h.mem hj
  have hv := sg_each h.ok hS h1
  rw [prN_at hj, hget j hj, ← hv]
  have e : asS ((lvL L out).map fun i => S.getD i (0, 0)) (thI (L.getD ((lvL L out).getD j 0) i0) (toL L out)) = asS S (L.getD ((lvL L out).getD j 0) i0) := by
    unfold asS
    rw [th_agL, List.map_map]
    apply List.map_congr_left
    intro r hr
    obtain ⟨-, -, e, e2, e3⟩ := h.reg hj hr
    show ((lvL L out).map fun i => S.getD i (0, 0)).getD (exR (toL L out) r).toNat (0, 0) = S.getD r.toNat (0, 0)
    rw [e, Int.toNat_natCast, hget _ (by omega), e3]
  unfold sgI
  rw [e]
  rfl

/-! ## The cost -/
theorem coL_cons (n : In) (L : List In) : coL (n :: L) = coZ n.op + coL L := by
  have e : n :: L = [n] ++ L := rfl
  rw [e, coL_app]
  have : coL [n] = coZ n.op := by simp [coL]
  omega
theorem co_filter (F G : Nat → In) (hF : ∀ i, (F i).op = (G i).op) (p : Nat → Bool) : ∀ I : List Nat, coL ((I.filter p).map F) ≤ coL (I.map G)
  | [] => by simp
  | i :: I => by
    have ih := co_filter F G hF p I
    have := (Cde.coZ_le (G i).op).1
    rw [List.map_cons, coL_cons]
    by_cases hp : p i = true
    · rw [List.filter_cons_of_pos hp, List.map_cons, coL_cons, hF]; omega
    · rw [List.filter_cons_of_neg hp]; omega
theorem range_get (L : List In) : (List.range L.length).map (fun i => L.getD i i0) = L := by
  apply List.ext_getElem (by simp)
  intro i h1 h2
  simp [List.getD_eq_getElem?_getD, List.getElem?_eq_getElem h2]
theorem prN_cost (L : List In) (out : Int) : coL (prN L out) ≤ coL L := by
  have := co_filter (fun i => thI (L.getD i i0) (toL L out)) (fun i => L.getD i i0) (fun i => rfl) (fun i => (lvM L out).getD i false) (List.range L.length)
  rw [range_get] at this
  exact this
theorem lvL_few (L : List In) (out : Int) : (lvL L out).length ≤ L.length := by
  have := List.length_filter_le (fun i => (lvM L out).getD i false) (List.range L.length)
  rwa [List.length_range] at this

/-! ## The answer's place -/
theorem Pc.ans {L : List In} {out : Int} (h : Pc L out) : out.toNat ∈ lvL L out := (lvL_mem h.ok h.o1).2 ⟨h.o1, .ans⟩
theorem Pc.last {L : List In} {out : Int} (h : Pc L out) : prO L out = ((lvL L out).length : Int) - 1 ∧ 1 ≤ (lvL L out).length ∧ (lvL L out).getD ((lvL L out).length - 1) 0 = out.toNat := by
  obtain ⟨t1, t2, t3⟩ := toL_at h.ans
  have hl : (lvL L out).idxOf out.toNat = (lvL L out).length - 1 := by
    by_cases e : (lvL L out).idxOf out.toNat = (lvL L out).length - 1
    · exact e
    · have hq : (lvL L out).length - 1 < (lvL L out).length := by omega
      have hp := List.pairwise_iff_getElem.1 (lvL_sorted L out) _ _ t2 hq (by omega)
      have hm := (lvL_mem h.ok h.o1).1 (List.getElem_mem hq)
      have := lv_le h.ok h.o1 hm.2
      rw [List.getD_eq_getElem?_getD, List.getElem?_eq_getElem t2, Option.getD_some] at t3
      omega
  rw [hl] at t1 t3
  refine ⟨?_, by omega, t3⟩
  unfold prO
  rw [t1]
  omega

/-! ## The pass -/
theorem pc_of {f d : Int} {L : List In} {out : Int} (h : mcB f d L out = true) : Pc L out := by
  obtain ⟨-, -, -, h0, h1, ho⟩ := Cde.mc_parts h
  exact ⟨ho, h0, by omega⟩
theorem okT_of {L : List In} (h : ∀ j, j < L.length → okI (L.getD j i0) j = true) : okT L L.length = true := by
  unfold okT
  rw [List.all_eq_true]
  intro i hi
  exact h i (List.mem_range.1 hi)
theorem pr_mc {f d : Int} {L : List In} {out : Int} (h : mcB f d L out = true) : mcB f d (prN L out) (prO L out) = true := by
  obtain ⟨hm, h1, h2, h3, h4, ho⟩ := Cde.mc_parts h
  have hp := pc_of h
  obtain ⟨l1, l2, -⟩ := hp.last
  have := lvL_few L out
  have e := prN_len L out
  simp only [mcB, Bool.and_eq_true, decide_eq_true_eq, YtijbmdmeiancgaaGreat.Spn.inB_iff]
  refine ⟨⟨⟨hm, ?_⟩, ?_⟩, okT_of hp.okA⟩
  · omega
  · omega
theorem pr_taken {f d : Int} {L : List In} {out : Int} (h : vfE f d L out = 0) : vfE f d (prN L out) (prO L out) = 0 := by
  obtain ⟨m, ha, ⟨S, hS, hSl, hs⟩, hc, -⟩ := vf_parts h
  have hp := pc_of m
  rw [Vfy.vf_zero, Vfy.my_zero]
  refine ⟨⟨pr_mc m, ?_⟩, by rw [hp.sgs hS], by have := prN_cost L out; omega⟩
  rw [List.any_eq_false] at ha ⊢
  intro n hn
  unfold prN at hn
  obtain ⟨i, hi, rfl⟩ := List.mem_map.1 hn
  have hi2 := ((lvL_mem hp.ok hp.o1).1 hi).1
  exact ha (L.getD i i0) (Cde.getD_mem i0 hi2)
theorem pr_means {f d : Int} {L : List In} {out : Int} (h : vfE f d L out = 0) {v : Wd} (hF : Fits f d v) :
    ∃ V U, vaZ f d v L out = (0, V) ∧ vaZ f d v (prN L out) (prO L out) = (0, U) ∧ V.length = L.length ∧ U.length = (prN L out).length ∧ 0 ≤ prO L out ∧ (prO L out).toNat < (prN L out).length ∧ U.getD (prO L out).toNat 0 = V.getD out.toNat 0 := by
  obtain ⟨m, -⟩ := vf_parts h
  have hp := pc_of m
  obtain ⟨l1, l2, l3⟩ := hp.last
  obtain ⟨V, hV, hVl, hO⟩ := Rdc.od_of h hF
  have hU := hp.vals hO.rv
  refine ⟨V, _, hV, by rw [vaZ, if_pos (pr_mc m), if_pos hF]; exact Rdc.vlF_of hU, hVl, hU.len, by omega, by rw [prN_len]; omega, ?_⟩
  have e : (prO L out).toNat = (lvL L out).length - 1 := by omega
  have hq : (lvL L out).length - 1 < (lvL L out).length := by omega
  rw [e, List.getD_eq_getElem?_getD, List.getElem?_map, List.getElem?_eq_getElem hq]
  rw [List.getD_eq_getElem?_getD, List.getElem?_eq_getElem hq, Option.getD_some] at l3
  show V.getD ((lvL L out)[(lvL L out).length - 1]) 0 = _
  rw [l3]

end Go.Proofs.Prn
