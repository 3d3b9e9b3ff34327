/-
  Prune, plainly (ahead of the code): pruned again it stays; everything left is read; what stands behind goes.
-/
import Derived.Test.YtijbmdmeiancgaaGreatMQA
import Derived.Test.YtijbmdmeiancgaaGreatMCdU0
namespace Go.Proofs.Prn
open Go.RowKit Go.IntWalk YtijbmdmeiancgaaGreat.Knd
open YtijbmdmeiancgaaGreat (Wd wdA Fits inpV)
open Cde (In i0 agL arN okI okT mcB coL coZ vlI vlS vlF vaZ arV csB rgs rgB usU ctR agA)
open Vfy (ahI vfE vf_parts w32 any_take sgF sgS sgI asS Inn vfS Sps)
open Fld (ar vl rg thI exR Rv gv In1 ag1 ag2 ag3 av1 av2 av3 rg_in)
set_option linter.unusedVariables false

/-! ## Again -/
/-- In the new code all hang together. -/
theorem Pc.lvN {L : List In} {out : Int} (h : Pc L out) {i : Nat} (hi : Lv L out i) : Lv (prN L out) (prO L out) ((lvL L out).idxOf i) ∧ i ∈ lvL L out := by
  obtain ⟨l1, l2, l3⟩ := h.last
  induction hi with
  | ans =>
    obtain ⟨t1, t2, t3⟩ := toL_at h.ans
    refine ⟨?_, h.ans⟩
    have e : (lvL L out).idxOf out.toNat = (prO L out).toNat := by unfold prO; rw [t1]; rfl
    rw [e]
    exact .ans
  | @arg i r h1 h2 ih =>
    obtain ⟨ih1, ih2⟩ := ih
    obtain ⟨t1, t2, t3⟩ := toL_at ih2
    have hr : r ∈ agL (L.getD ((lvL L out).getD ((lvL L out).idxOf i) 0) i0) := by rw [t3]; exact h2
    obtain ⟨r0, r1, r2, r3, r4⟩ := h.reg t2 hr
    refine ⟨?_, r1⟩
    have e := Lv.arg ih1 (r := exR (toL L out) r) (by rw [prN_at t2, t3, th_agL]; exact List.mem_map_of_mem h2)
    rw [r2, Int.toNat_natCast] at e
    exact e
theorem idx_at {l : List Nat} (hs : l.Pairwise (· < ·)) {j : Nat} (hj : j < l.length) : l.idxOf (l.getD j 0) = j := by
  have e : l.getD j 0 = l[j] := by rw [List.getD_eq_getElem?_getD, List.getElem?_eq_getElem hj]; rfl
  have hm : l[j] ∈ l := List.getElem_mem hj
  have h1 := List.idxOf_lt_length_of_mem hm
  have h2 : l[l.idxOf l[j]] = l[j] := List.getElem_idxOf h1
  rw [e]
  rcases Nat.lt_trichotomy (l.idxOf l[j]) j with h | h | h
  · have := List.pairwise_iff_getElem.1 hs _ _ h1 hj h; omega
  · exact h
  · have := List.pairwise_iff_getElem.1 hs _ _ hj h1 h; omega
theorem Pc.allN {L : List In} {out : Int} (h : Pc L out) {j : Nat} (hj : j < (prN L out).length) : Lv (prN L out) (prO L out) j := by
  rw [prN_len] at hj
  have := (h.lvN (h.mem hj).2).1
  rwa [idx_at (lvL_sorted L out) hj] at this
theorem Pc.new {L : List In} {out : Int} (h : Pc L out) : Pc (prN L out) (prO L out) := by
  obtain ⟨l1, l2, l3⟩ := h.last
  exact ⟨okT_of h.okA, by omega, by rw [prN_len]; omega⟩
theorem lvL_full {L : List In} {out : Int} (h : Pc L out) (ha : ∀ i, i < L.length → Lv L out i) : lvL L out = List.range L.length := by
  unfold lvL
  rw [List.filter_eq_self]
  intro i hi
  exact ((lvM_mk h.ok h.o1).iff h.ok h.o1 i).2 (ha i (List.mem_range.1 hi))
theorem toL_full {L : List In} {out : Int} (h : Pc L out) (ha : ∀ i, i < L.length → Lv L out i) {i : Nat} (hi : i < L.length) : (toL L out).getD i 0 = (i : Int) := by
  have e := lvL_full h ha
  have hm : i ∈ lvL L out := by rw [e]; exact List.mem_range.2 hi
  rw [(toL_at hm).1]
  have hl : i < (lvL L out).length := by rw [e, List.length_range]; exact hi
  have := idx_at (lvL_sorted L out) hl
  have e2 : (lvL L out).getD i 0 = i := by rw [e, List.getD_eq_getElem?_getD, List.getElem?_range hi]; rfl
  rw [e2] at this
  rw [this]
theorem th_id {n : In} {T : List Int} (h : ∀ i, i < T.length → T.getD i 0 = (i : Int)) : thI n T = n := by
  have e : ∀ r, exR T r = r := fun r => by
    unfold exR
    split
    · rfl
    · rw [h _ (by omega)]; omega
  unfold thI
  rw [e, e, e, ite_self, ite_self, ite_self]
theorem pr_full {L : List In} {out : Int} (h : Pc L out) (ha : ∀ i, i < L.length → Lv L out i) : prN L out = L ∧ prO L out = out := by
  have ht : ∀ i, i < (toL L out).length → (toL L out).getD i 0 = (i : Int) := fun i hi => toL_full h ha (by rw [toL_len] at hi; exact hi)
  constructor
  · unfold prN
    rw [lvL_full h ha]
    have e : (fun i => thI (L.getD i i0) (toL L out)) = fun i => L.getD i i0 := funext fun i => th_id ht
    rw [e, range_get]
  · unfold prO
    rw [toL_full h ha h.o1]
    have := h.o0
    omega
theorem Pc.again {L : List In} {out : Int} (h : Pc L out) : prN (prN L out) (prO L out) = prN L out ∧ prO (prN L out) (prO L out) = prO L out := pr_full h.new fun i hi => h.allN hi

/-! ## Read -/
theorem lv_cases {L : List In} {out : Int} {i : Nat} (h : Lv L out i) : i = out.toNat ∨ ∃ k r, Lv L out k ∧ r ∈ agL (L.getD k i0) ∧ r.toNat = i := by
  cases h with
  | ans => exact .inl rfl
  | arg h1 h2 => exact .inr ⟨_, _, h1, h2, rfl⟩
theorem Pc.read {L : List In} {out : Int} (h : Pc L out) {j : Nat} (hj : j < (prN L out).length) : 1 ≤ (usU (prN L out) (prO L out)).getD j 0 := by
  rw [Cde.usU_at _ _ hj]
  have h0 := (Cde.ctR_le j (agA (prN L out))).1
  rcases lv_cases (h.allN hj) with e | ⟨k, r, h1, h2, h3⟩
  · have := h.new.o0
    rw [if_pos (by omega)]; omega
  · have hk : k < (prN L out).length := by
      have := lv_le h.new.ok h.new.o1 h1
      have := h.new.o1
      omega
    have hm : r ∈ agA (prN L out) := List.mem_flatMap.2 ⟨_, Cde.getD_mem i0 hk, h2⟩
    have : 1 ≤ ctR j (agA (prN L out)) := by
      unfold ctR
      have : 0 < ((agA (prN L out)).filter fun x => decide (x.toNat = j)).length := List.length_pos_of_mem (List.mem_filter.2 ⟨hm, by simpa using h3⟩)
      omega
    split <;> omega

/-! ## Behind -/
theorem get_app {L M : List In} {i : Nat} (h : i < L.length) : (L ++ M).getD i i0 = L.getD i i0 := by
  rw [List.getD_eq_getElem?_getD, List.getElem?_append_left h, ← List.getD_eq_getElem?_getD]
theorem lv_app {L M : List In} {out : Int} (h : Pc L out) {i : Nat} : Lv (L ++ M) out i ↔ Lv L out i := by
  constructor
  · intro hi
    induction hi with
    | ans => exact .ans
    | arg h1 h2 ih =>
      have hl := lv_le h.ok h.o1 ih
      have := h.o1
      rw [get_app (by omega)] at h2
      exact .arg ih h2
  · intro hi
    induction hi with
    | ans => exact .ans
    | @arg i r h1 h2 ih =>
      have hl := lv_le h.ok h.o1 h1
      have := h.o1
      exact .arg ih (by rw [get_app (by omega)]; exact h2)
theorem lvL_app {L M : List In} {out : Int} (h : Pc L out) (h2 : Pc (L ++ M) out) : lvL (L ++ M) out = lvL L out := by
  have hb : ∀ i, (lvM (L ++ M) out).getD i false = true ↔ Lv L out i := fun i => ((lvM_mk h2.ok h2.o1).iff h2.ok h2.o1 i).trans (lv_app h)
  have hb2 : ∀ i, (lvM L out).getD i false = true ↔ Lv L out i := fun i => (lvM_mk h.ok h.o1).iff h.ok h.o1 i
  unfold lvL
  rw [List.length_append, List.range_add, List.filter_append]
  have e : ((List.range M.length).map (L.length + ·)).filter (fun i => (lvM (L ++ M) out).getD i false) = [] := by
    rw [List.filter_eq_nil_iff]
    intro i hi hc
    obtain ⟨k, -, rfl⟩ := List.mem_map.1 hi
    have := lv_le h.ok h.o1 ((hb _).1 hc)
    have := h.o1
    omega
  rw [e, List.append_nil]
  apply List.filter_congr
  intro i _
  rw [Bool.eq_iff_iff, hb, hb2]
theorem th_same {n : In} {T U : List Int} (h : ∀ r ∈ agL n, exR T r = exR U r) : thI n T = thI n U := by
  have ma : 0 < ar n.op → n.a ∈ agL n := fun u => by
    rcases Cde.ar_five n.op with e | e | e | e | e
    · have : ar n.op = -1 := e; omega
    · have : ar n.op = 0 := e; omega
    · rw [ag1 e]; simp
    · rw [ag2 e]; simp
    · rw [ag3 e]; simp
  have mb : 1 < ar n.op → n.b ∈ agL n := fun u => by
    rcases Cde.ar_five n.op with e | e | e | e | e
    · have : ar n.op = -1 := e; omega
    · have : ar n.op = 0 := e; omega
    · have : ar n.op = 1 := e; omega
    · rw [ag2 e]; simp
    · rw [ag3 e]; simp
  have mc : 2 < ar n.op → n.c ∈ agL n := fun u => by
    rcases Cde.ar_five n.op with e | e | e | e | e
    · have : ar n.op = -1 := e; omega
    · have : ar n.op = 0 := e; omega
    · have : ar n.op = 1 := e; omega
    · have : ar n.op = 2 := e; omega
    · rw [ag3 e]; simp
  have ea : (if 0 < ar n.op then exR T n.a else n.a) = if 0 < ar n.op then exR U n.a else n.a := by
    split
    · exact h _ (ma ‹_›)
    · rfl
  have eb : (if 1 < ar n.op then exR T n.b else n.b) = if 1 < ar n.op then exR U n.b else n.b := by
    split
    · exact h _ (mb ‹_›)
    · rfl
  have ec : (if 2 < ar n.op then exR T n.c else n.c) = if 2 < ar n.op then exR U n.c else n.c := by
    split
    · exact h _ (mc ‹_›)
    · rfl
  unfold thI
  rw [ea, eb, ec]
theorem pr_behind {L M : List In} {out : Int} (h : Pc L out) (h2 : Pc (L ++ M) out) : prN (L ++ M) out = prN L out ∧ prO (L ++ M) out = prO L out := by
  have el := lvL_app h h2
  constructor
  · apply List.ext_getElem (by rw [prN_len, prN_len, el])
    intro j j1 j2
    have hj : j < (lvL L out).length := by rw [prN_len] at j2; exact j2
    have hj' : j < (lvL (L ++ M) out).length := by rw [el]; exact hj
    have e1 := prN_at hj
    have e2 := prN_at hj'
    rw [List.getD_eq_getElem?_getD, List.getElem?_eq_getElem j2, Option.getD_some] at e1
    rw [List.getD_eq_getElem?_getD, List.getElem?_eq_getElem j1, Option.getD_some] at e2
    rw [e1, e2, el, get_app (h.mem hj).1]
    apply th_same
    intro r hr
    obtain ⟨-, -, r2, -⟩ := h.reg hj hr
    obtain ⟨-, -, q2, -⟩ := h2.reg hj' (r := r) (by rw [el, get_app (h.mem hj).1]; exact hr)
    rw [r2, q2, el]
  · obtain ⟨l1, -⟩ := h.last
    obtain ⟨l2, -⟩ := h2.last
    rw [l1, l2, el]

/-! ## In their order -/
/-- What stays of an instruction. -/
def kyI (n : In) : Int × Int × Int := (n.op, n.k, n.s)
/-- The walk that looks for them one by one. -/
def gmS (D : List In) (a : Nat) (n : In) : Nat := if a < D.length ∧ kyI n = kyI (D.getD a i0) then a + 1 else a
theorem gm_all (D : List In) : ∀ (C : List In) (a : Nat), a ≤ D.length → ((D.drop a).map kyI).Sublist (C.map kyI) → C.foldl (gmS D) a = D.length
  | [], a, ha, h => by
    have := h.length_le
    simp at this
    show a = _
    omega
  | n :: C, a, ha, h => by
    show C.foldl (gmS D) (gmS D a n) = _
    unfold gmS
    by_cases hl : a < D.length
    · have ed : D.drop a = D.getD a i0 :: D.drop (a + 1) := by
        rw [List.drop_eq_getElem_cons hl, List.getD_eq_getElem?_getD, List.getElem?_eq_getElem hl]; rfl
      by_cases hk : kyI n = kyI (D.getD a i0)
      · rw [if_pos ⟨hl, hk⟩]
        refine gm_all D C (a + 1) (by omega) ?_
        rw [ed, List.map_cons, List.map_cons, hk, List.cons_sublist_cons] at h
        exact h
      · rw [if_neg fun hc => hk hc.2]
        refine gm_all D C a ha ?_
        rw [ed, List.map_cons, List.map_cons] at h
        rw [ed, List.map_cons]
        generalize kyI (D.getD a i0) = x at h hk ⊢
        generalize kyI n = y at h hk
        cases h with
        | cons _ h => exact h
        | cons_cons _ h => exact absurd rfl hk
    · rw [if_neg fun hc => hl hc.1]
      refine gm_all D C a ha ?_
      rw [List.drop_eq_nil_of_le (by omega)]
      exact List.nil_sublist _
theorem pr_order (L : List In) (out : Int) : L.foldl (gmS (prN L out)) 0 = (prN L out).length := by
  refine gm_all _ L 0 (Nat.zero_le _) ?_
  rw [List.drop_zero]
  have e : (prN L out).map kyI = ((lvL L out).map fun i => L.getD i i0).map kyI := by
    unfold prN
    rw [List.map_map, List.map_map]
    rfl
  rw [e]
  refine List.Sublist.map _ ?_
  have := (List.filter_sublist (l := List.range L.length) (p := fun i => (lvM L out).getD i false)).map fun i => L.getD i i0
  rw [range_get] at this
  exact this

end Go.Proofs.Prn

/-
  Prune, plainly (ahead of the code): marks as numbers, set until no further one is; the new registers, set one by one.
-/
namespace Go.Proofs.Prn
open Go.RowKit Go.IntWalk YtijbmdmeiancgaaGreat.Knd
open Cde (In i0 agL okI okT mcB)
set_option linter.unusedVariables false

/-- Marks that are numbers: 1 only where the answer hangs on it. -/
structure Mi (L : List In) (out : Int) (A : List Int) : Prop where
  len : A.length = L.length
  bit : ∀ i, A.getD i 0 = 0 ∨ A.getD i 0 = 1
  lv : ∀ i, A.getD i 0 = 1 → Lv L out i
  ans : A.getD out.toNat 0 = 1
theorem getI_set {A : List Int} {r i : Nat} {x : Int} : (A.set r x).getD i 0 = if i = r ∧ r < A.length then x else A.getD i 0 := by
  rw [List.getD_eq_getElem?_getD, List.getElem?_set, List.getD_eq_getElem?_getD]
  by_cases e : r = i
  · subst e
    by_cases h : r < A.length
    · simp [h]
    · simp [h]
  · rw [if_neg e, if_neg (by omega)]
theorem getI_rep {n i : Nat} : (List.replicate n (0 : Int)).getD i 0 = 0 := by
  rw [List.getD_eq_getElem?_getD, List.getElem?_replicate]
  split <;> rfl
theorem Mi.start {L : List In} {out : Int} (ho : out.toNat < L.length) : Mi L out ((List.replicate L.length (0 : Int)).set out.toNat 1) := by
  refine ⟨by simp, fun i => ?_, fun i hi => ?_, ?_⟩
  · rw [getI_set, getI_rep]; split <;> simp
  · rw [getI_set, getI_rep] at hi
    split at hi
    · rename_i e; rw [e.1]; exact .ans
    · omega
  · rw [getI_set, if_pos ⟨rfl, by simpa using ho⟩]
theorem Mi.set {L : List In} {out : Int} {A : List Int} (h : Mi L out A) {i : Nat} (hi : A.getD i 0 = 1) {r : Int} (hr : r ∈ agL (L.getD i i0)) : Mi L out (A.set r.toNat 1) := by
  refine ⟨by rw [List.length_set]; exact h.len, fun j => ?_, fun j hj => ?_, ?_⟩
  · rw [getI_set]; split
    · exact .inr rfl
    · exact h.bit j
  · rw [getI_set] at hj
    split at hj
    · rename_i e; rw [e.1]; exact .arg (h.lv i hi) hr
    · exact h.lv j hj
  · rw [getI_set]; split
    · rfl
    · exact h.ans
/-- Closed up to k: what the marked ones ahead of k read is marked. -/
def Cl (L : List In) (A : List Int) (k : Nat) : Prop := ∀ i, i < k → A.getD i 0 = 1 → ∀ r ∈ agL (L.getD i i0), A.getD r.toNat 0 = 1
theorem Mi.iff {L : List In} {out : Int} {A : List Int} (h : Mi L out A) (hp : Pc L out) (hc : Cl L A L.length) (i : Nat) : A.getD i 0 = 1 ↔ Lv L out i := by
  refine ⟨h.lv i, fun hl => ?_⟩
  have : A.getD i 0 = 1 ∧ i < L.length := by
    induction hl with
    | ans => exact ⟨h.ans, hp.o1⟩
    | @arg j r h1 h2 ih => exact ⟨hc j ih.2 ih.1 r h2, by have := (Vfy.ag_reg (Cde.okT_at hp.ok ih.2) h2).2; omega⟩
  exact this.1
/-- Those that are marked, rising, are the registers on which the answer hangs. -/
theorem Mi.live {L : List In} {out : Int} {A : List Int} (h : Mi L out A) (hp : Pc L out) (hc : Cl L A L.length) : (List.range L.length).filter (fun i => decide (A.getD i 0 = 1)) = lvL L out := by
  unfold lvL
  apply List.filter_congr
  intro i _
  rw [Bool.eq_iff_iff, decide_eq_true_iff, h.iff hp hc, (lvM_mk hp.ok hp.o1).iff hp.ok hp.o1]
/-- How many are not marked. -/
def zrN (A : List Int) : Nat := (A.filter fun x => decide (x = 0)).length
theorem zr_le (A : List Int) : zrN A ≤ A.length := List.length_filter_le _ _
theorem zr_set : ∀ (A : List Int) (r : Nat), r < A.length → A.getD r 0 = 0 → zrN (A.set r 1) + 1 = zrN A
  | [], r, h, _ => by simp at h
  | x :: A, 0, _, h => by
    have hx : x = 0 := h
    subst hx
    simp [zrN]
  | x :: A, r + 1, hl, h => by
    have ih := zr_set A r (by simpa using hl) (by simpa [List.getD_eq_getElem?_getD] using h)
    rw [List.set_cons_succ]
    unfold zrN at ih ⊢
    by_cases hx : x = 0
    · rw [List.filter_cons_of_pos (by simpa using hx), List.filter_cons_of_pos (by simpa using hx), List.length_cons, List.length_cons, ih]
    · rw [List.filter_cons_of_neg (by simpa using hx), List.filter_cons_of_neg (by simpa using hx), ih]

/-! ## The new registers, one by one -/
def toK (l : List Nat) (n k : Nat) : List Int := (List.range k).foldl (fun T j => T.set (l.getD j 0) (j : Int)) (List.replicate n 0)
theorem toK_zero (l : List Nat) (n : Nat) : toK l n 0 = List.replicate n 0 := rfl
theorem toK_succ (l : List Nat) (n k : Nat) : toK l n (k + 1) = (toK l n k).set (l.getD k 0) (k : Int) := by
  unfold toK
  rw [List.range_succ, List.foldl_append]
  rfl
theorem toK_len (l : List Nat) (n : Nat) : ∀ k, (toK l n k).length = n
  | 0 => by simp [toK]
  | k + 1 => by rw [toK_succ, List.length_set, toK_len l n k]
theorem toK_get {l : List Nat} {n : Nat} (hs : l.Pairwise (· < ·)) (hl : ∀ i ∈ l, i < n) {i : Nat} : ∀ k, k ≤ l.length → (toK l n k).getD i 0 = if i ∈ l ∧ l.idxOf i < k then ((l.idxOf i : Nat) : Int) else 0
  | 0, _ => by rw [toK_zero, getI_rep, if_neg (by omega)]
  | k + 1, hk => by
    have hg : l.getD k 0 ∈ l := Cde.getD_mem 0 (by omega)
    have hi := idx_at hs (show k < l.length by omega)
    rw [toK_succ, getI_set, toK_get hs hl k (by omega), toK_len]
    by_cases e : i = l.getD k 0
    · rw [if_pos ⟨e, hl _ hg⟩, e, hi, if_pos ⟨hg, by omega⟩]
    · rw [if_neg fun hc => e hc.1]
      by_cases hm : i ∈ l
      · have hne : l.idxOf i ≠ k := fun hc => by
          have h1 := List.idxOf_lt_length_of_mem hm
          have h2 : l[l.idxOf i] = i := List.getElem_idxOf h1
          have h3 : l.getD (l.idxOf i) 0 = i := by rw [List.getD_eq_getElem?_getD, List.getElem?_eq_getElem h1, Option.getD_some]; exact h2
          rw [hc] at h3
          exact e h3.symm
        by_cases hlt : l.idxOf i < k
        · rw [if_pos ⟨hm, hlt⟩, if_pos ⟨hm, by omega⟩]
        · rw [if_neg fun hc => hlt hc.2, if_neg fun hc => by omega]
      · rw [if_neg fun hc => hm hc.1, if_neg fun hc => hm hc.1]
theorem toK_full {L : List In} {out : Int} (hp : Pc L out) : toK (lvL L out) L.length (lvL L out).length = toL L out := by
  apply List.ext_getElem (by rw [toK_len, toL_len])
  intro i h1 h2
  have hi : i < L.length := by rw [toK_len] at h1; exact h1
  have e := toK_get (l := lvL L out) (n := L.length) (i := i) (lvL_sorted L out) (fun j hj => ((lvL_mem hp.ok hp.o1).1 hj).1) (lvL L out).length (Nat.le_refl _)
  rw [List.getD_eq_getElem?_getD, List.getElem?_eq_getElem h1, Option.getD_some] at e
  have e2 : (toL L out)[i] = if (lvM L out).getD i false = true then (((lvL L out).idxOf i : Nat) : Int) else 0 := by simp [toL]
  refine Eq.trans e (Eq.trans ?_ e2.symm)
  have hb := ((lvM_mk hp.ok hp.o1).iff hp.ok hp.o1 i)
  by_cases hm : i ∈ lvL L out
  · rw [if_pos ⟨hm, List.idxOf_lt_length_of_mem hm⟩, if_pos (hb.2 ((lvL_mem hp.ok hp.o1).1 hm).2)]
  · rw [if_neg fun hc => hm hc.1, if_neg fun hc => hm ((lvL_mem hp.ok hp.o1).2 ⟨hi, hb.1 hc⟩)]

end Go.Proofs.Prn

/-
  Prune, plainly: what the walks of Live and kept keep.
-/
namespace Go.Proofs.Prn
open Go.RowKit Go.IntWalk YtijbmdmeiancgaaGreat.Knd
open Cde (In i0 agL okI okT mcB)
open Fld (thI exR)
set_option linter.unusedVariables false

/-- Marks from k on tell of all from k - 1 on. -/
theorem Mk.one {L : List In} {out : Int} {k : Nat} {B : List Bool} (h : Mk L out k B) (hp : Pc L out) {i : Nat} (hi : k ≤ i + 1) : B.getD i false = true ↔ Lv L out i := by
  refine ⟨h.lv i, fun hl => ?_⟩
  have : k ≤ i + 1 → B.getD i false = true := by
    induction hl with
    | ans => intro _; exact h.ans
    | @arg j r h1 h2 ih =>
      intro hk
      have hj : j < L.length := by have := lv_le hp.ok hp.o1 h1; have := hp.o1; omega
      have := (Vfy.ag_reg (Cde.okT_at hp.ok hj) h2).2
      exact h.cl j (by omega) hj (ih (by omega) (by omega)) r h2
  exact this hi
theorem Mk.top {L : List In} {out : Int} (hp : Pc L out) : Mk L out (out.toNat + 1) ((List.replicate L.length false).set out.toNat true) := by
  have h := Mk.start (L := L) (out := out) hp.o1
  refine ⟨h.len, h.lv, h.ans, fun i h1 h2 h3 => ?_⟩
  have := lv_le hp.ok hp.o1 (h.lv i h3)
  omega
theorem Mk.yes {L : List In} {out : Int} {k : Nat} {B : List Bool} (h : Mk L out (k + 1) B) (hp : Pc L out) (hk : k < L.length) (hb : B.getD k false = true) : Mk L out k (mkA B (agL (L.getD k i0))) := by
  have e := h.step hk (Cde.okT_at hp.ok hk)
  rwa [lvS, if_pos hb] at e
theorem Mk.no {L : List In} {out : Int} {k : Nat} {B : List Bool} (h : Mk L out (k + 1) B) (hp : Pc L out) (hk : k < L.length) (hb : B.getD k false = false) : Mk L out k B := by
  have e := h.step hk (Cde.okT_at hp.ok hk)
  rwa [lvS, if_neg (by rw [hb]; decide)] at e
theorem mkA_snoc (B : List Bool) (P : List Int) (r : Int) : mkA B (P ++ [r]) = (mkA B P).set r.toNat true := by
  unfold mkA; rw [List.foldl_append]; rfl
/-- The registers from j on, falling. -/
def lvJ (L : List In) (out : Int) (j : Nat) : List Int := (((lvL L out).filter fun i => decide (j ≤ i)).reverse).map fun i : Nat => (i : Int)
/-- All of them, rising. -/
def lvZ (L : List In) (out : Int) : List Int := (lvL L out).map fun i : Nat => (i : Int)
theorem sort_from : ∀ {l : List Nat} {j : Nat}, l.Pairwise (· < ·) → j ∈ l → l.filter (fun i => decide (j ≤ i)) = j :: l.filter (fun i => decide (j + 1 ≤ i))
  | [], j, _, h => by simp at h
  | x :: l, j, hs, h => by
    rw [List.pairwise_cons] at hs
    rcases List.mem_cons.1 h with rfl | h
    · rw [List.filter_cons_of_pos (by simp), List.filter_cons_of_neg (by simp)]
      congr 1
      apply List.filter_congr
      intro y hy
      have := hs.1 y hy
      rw [Bool.eq_iff_iff, decide_eq_true_iff, decide_eq_true_iff]
      omega
    · have := hs.1 j h
      rw [List.filter_cons_of_neg (by simp; omega), List.filter_cons_of_neg (by simp; omega)]
      exact sort_from hs.2 h
theorem lvJ_top {L : List In} {out : Int} (hp : Pc L out) : lvJ L out (out.toNat + 1) = [] := by
  unfold lvJ
  have : (lvL L out).filter (fun i => decide (out.toNat + 1 ≤ i)) = [] := by
    rw [List.filter_eq_nil_iff]
    intro i hi
    have := lv_le hp.ok hp.o1 ((lvL_mem hp.ok hp.o1).1 hi).2
    simp; omega
  rw [this]; rfl
theorem lvJ_yes {L : List In} {out : Int} (hp : Pc L out) {j : Nat} (hj : j < L.length) (h : Lv L out j) : lvJ L out j = lvJ L out (j + 1) ++ [(j : Int)] := by
  unfold lvJ
  rw [sort_from (lvL_sorted L out) ((lvL_mem hp.ok hp.o1).2 ⟨hj, h⟩), List.reverse_cons, List.map_append]
  rfl
theorem lvJ_no {L : List In} {out : Int} (hp : Pc L out) {j : Nat} (h : ¬ Lv L out j) : lvJ L out j = lvJ L out (j + 1) := by
  unfold lvJ
  congr 2
  apply List.filter_congr
  intro i hi
  have : i ≠ j := fun e => h (e ▸ ((lvL_mem hp.ok hp.o1).1 hi).2)
  rw [Bool.eq_iff_iff, decide_eq_true_iff, decide_eq_true_iff]
  omega
theorem lvJ_zero (L : List In) (out : Int) : (lvJ L out 0).reverse = lvZ L out := by
  unfold lvJ lvZ
  have : (lvL L out).filter (fun i => decide (0 ≤ i)) = lvL L out := by
    rw [List.filter_eq_self]; intro i _; simp
  rw [this, ← List.map_reverse, List.reverse_reverse]
theorem lvJ_len (L : List In) (out : Int) (j : Nat) : (lvJ L out j).length ≤ L.length := by
  unfold lvJ
  rw [List.length_map, List.length_reverse]
  exact Nat.le_trans (List.length_filter_le _ _) (lvL_few L out)
theorem lvZ_len (L : List In) (out : Int) : (lvZ L out).length = (lvL L out).length := by simp [lvZ]
theorem lvZ_at {L : List In} {out : Int} {k : Nat} (hk : k < (lvL L out).length) : (lvZ L out).getD k 0 = (((lvL L out).getD k 0 : Nat) : Int) := by
  unfold lvZ
  rw [List.getD_eq_getElem?_getD, List.getElem?_map, List.getD_eq_getElem?_getD, List.getElem?_eq_getElem hk]
  rfl

/-! ## The new code, one by one -/
/-- The new instructions of the first k registers. -/
def prK (L : List In) (out : Int) (k : Nat) : List In := (prN L out).take k
theorem Pc.th {L : List In} {out : Int} (h : Pc L out) {k : Nat} (hk : k < (lvL L out).length) : thI (L.getD ((lvL L out).getD k 0) i0) (toK (lvL L out) L.length (k + 1)) = (prN L out).getD k i0 := by
  rw [prN_at hk]
  apply th_same
  intro r hr
  obtain ⟨r0, r1, r2, r3, r4⟩ := h.reg hk hr
  rw [r2]
  unfold exR
  have hl := ((lvL_mem h.ok h.o1).1 r1).1
  rw [toK_len, if_neg (by omega), toK_get (lvL_sorted L out) (fun j hj => ((lvL_mem h.ok h.o1).1 hj).1) (k + 1) (by omega), if_pos ⟨r1, by omega⟩]
theorem prK_succ {L : List In} {out : Int} {k : Nat} (hk : k < (lvL L out).length) : prK L out (k + 1) = prK L out k ++ [(prN L out).getD k i0] := Cde.take_snoc i0 (by rw [prN_len]; exact hk)
theorem prK_len {L : List In} {out : Int} {k : Nat} (hk : k ≤ (lvL L out).length) : (prK L out k).length = k := by
  unfold prK; rw [List.length_take, prN_len]; omega
theorem prK_full (L : List In) (out : Int) : prK L out (lvL L out).length = prN L out := List.take_of_length_le (by rw [prN_len]; exact Nat.le_refl _)

/-! ## Turned round -/
def rvK (D : List Int) : Nat → List Int
  | 0 => D
  | k + 1 => ((rvK D k).set k ((rvK D k).getD (D.length - 1 - k) 0)).set (D.length - 1 - k) ((rvK D k).getD k 0)
theorem rvK_len (D : List Int) : ∀ k, (rvK D k).length = D.length
  | 0 => rfl
  | k + 1 => by rw [rvK, List.length_set, List.length_set, rvK_len D k]
theorem rvK_get (D : List Int) : ∀ (k : Nat), 2 * k ≤ D.length → ∀ p, p < D.length → (rvK D k).getD p 0 = if p < k ∨ D.length ≤ p + k then D.getD (D.length - 1 - p) 0 else D.getD p 0
  | 0, _, p, hp => by rw [if_neg (by omega)]; rfl
  | k + 1, hk, p, hp => by
    have ih := rvK_get D k (by omega)
    rw [rvK, getI_set, getI_set, List.length_set, rvK_len]
    by_cases h1 : p = D.length - 1 - k
    · rw [if_pos ⟨h1, by omega⟩, ih k (by omega), if_neg (by omega), if_pos (by omega)]
      congr 1; omega
    · rw [if_neg (fun hc => h1 hc.1)]
      by_cases h2 : p = k
      · rw [if_pos ⟨h2, by omega⟩, ih _ (by omega), if_neg (by omega), if_pos (by omega)]
        congr 1; omega
      · rw [if_neg (fun hc => h2 hc.1), ih p hp]
        by_cases h3 : p < k ∨ D.length ≤ p + k
        · rw [if_pos h3, if_pos (by omega)]
        · rw [if_neg h3, if_neg (by omega)]
theorem rvK_end (D : List Int) {k : Nat} (h1 : 2 * k ≤ D.length) (h2 : D.length ≤ 2 * k + 1) : rvK D k = D.reverse := by
  apply List.ext_getElem (by rw [rvK_len, List.length_reverse])
  intro p q1 q2
  have hp : p < D.length := by rw [rvK_len] at q1; exact q1
  have e := rvK_get D k h1 p hp
  rw [List.getD_eq_getElem?_getD, List.getElem?_eq_getElem q1, Option.getD_some] at e
  have e2 : D.getD (D.length - 1 - p) 0 = D[D.length - 1 - p] := by rw [List.getD_eq_getElem?_getD, List.getElem?_eq_getElem (by omega), Option.getD_some]
  rw [e, List.getElem_reverse, ← e2]
  split
  · rfl
  · congr 1; omega

end Go.Proofs.Prn
