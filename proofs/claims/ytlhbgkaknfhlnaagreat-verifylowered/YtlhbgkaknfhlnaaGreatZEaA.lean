/-
  What Check answers, plainly: no program, no memory.
-/
import Derived.Test.YtlhbgkaknfhlnaaGreatZCkC
import Derived.Test.YtlhbgkaknfhlnaaGreatZSpOfS
import Derived.Test.YtlhbgkaknfhlnaaGreatZKnC
import Derived.Deep.RegionWith
import Derived.Deep.RegionHeld3
import Derived.BigRegion
namespace Go.Proofs.YtlhbgkaknfhlnaaGreat
open Lx Pz
set_option linter.unusedVariables false

/-- A sound tree, by its expressions. -/
structure Dec (NM : List Txt) (BS : List Int) (NS : List Nd) (root : Int) (es : List E) (ex : E) : Prop where
  nodes : NS = flL es 0 ++ ex.flat (szL es)
  binds : BS = bdL es 0
  names : NM.length = es.length
  gd : ∀ j e, es[j]? = some e → Gd j e
  gx : Gd es.length ex
  ok : nmB NM = true
  root : root = (NS.length : Int) - 1
  few : NS.length ≤ 1024

theorem chk_dec {NM : List Txt} {BS : List Int} {NS : List Nd} {root : Int} : chkP NM BS NS root = true ↔ ∃ es ex, Dec NM BS NS root es ex := by
  constructor
  · intro h
    simp only [chkP, Bool.and_eq_true, beq_iff_eq] at h
    obtain ⟨h1, h2, h3, h4⟩ := h
    simp only [endsP, wthn, Bool.and_eq_true, decide_eq_true_eq, beq_iff_eq] at h2
    obtain ⟨es, ex, e1, e2, e3, e4⟩ := ord_good.1 h3
    refine ⟨es, ex, e1, e2, ?_, e3, e4, h4, h2.2, by omega⟩
    rw [h1, e2, bdL_len]
  · rintro ⟨es, ex, h⟩
    simp only [chkP, Bool.and_eq_true, beq_iff_eq]
    refine ⟨by rw [h.names, h.binds, bdL_len], ?_, ord_good.2 ⟨es, ex, h.nodes, h.binds, h.gd, h.gx⟩, h.ok⟩
    simp only [endsP, wthn, Bool.and_eq_true, decide_eq_true_eq, beq_iff_eq]
    have := h.few
    have h2 : 1 ≤ NS.length := by rw [h.nodes, List.length_append, E.flat_len]; have := ex.size_pos; omega
    exact ⟨⟨by omega, by omega⟩, h.root⟩

/-- A node's parts. -/
def prts (n : Nd) : List Int := [n.a, n.b, n.c].take (prZ n.op).toNat
abbrev Sps := List (Int × Int)
abbrev plOf (n : Nd) : Knd.Plc := ⟨n.back, n.co, n.x, n.y⟩
/-- A node's span, by those ahead of it. -/
def spN (f d : Int) (BS : List Int) (S : Sps) (n : Nd) : (Int × Int) × Int :=
  if n.op = 4 then (S.getD (BS.getD n.k.toNat 0).toNat (0, 0), 0) else
  if n.op = 1 then ((n.k, n.k), 0) else
  if n.op = 2 then ((Knd.inZ f d n.k).getD (0, 0), 0) else
  if n.op = 3 then ((Knd.lowZ f d, Knd.highZ f d), 0) else
  Spn.ofZ n.op 0 0 ((prts n).map fun p => S.getD p.toNat (0, 0))
/-- The nodes' spans, behind those ahead; or the first error. -/
def spR (f d : Int) (BS : List Int) : List Nd → Sps → Sps × Int
  | [], S => (S, 0)
  | n :: NS, S => if (spN f d BS S n).2 = 0 then spR f d BS NS (S ++ [(spN f d BS S n).1]) else ([], (spN f d BS S n).2)
def dpN (BS : List Int) (D : List Int) (n : Nd) : Int :=
  if n.op = 4 then D.getD (BS.getD n.k.toNat 0).toNat 0 else ((prts n).map fun p => D.getD p.toNat 0).foldl max 0 + 1
def dpR (BS : List Int) : List Nd → List Int → List Int
  | [], D => D
  | n :: NS, D => dpR BS NS (D ++ [dpN BS D n])
def coZ (o : Int) : Int := if o = 4 then 0 else if o = 11 then 4 else if o = 12 then 6 else 1
def coR (NS : List Nd) : Int := NS.foldl (fun s n => s + coZ n.op) 0
def mxR (D : List Int) : Int := D.foldl max 0
def ahB (f d : Int) (n : Nd) : Bool := n.op == 3 && (Knd.numZ f d (plOf n)).isNone

/-- Check's error. -/
def ckE (f d : Int) (NM : List Txt) (BS : List Int) (NS : List Nd) (root : Int) : Int :=
  if ¬ Knd.May f d then 1 else if chkP NM BS NS root = false then 3 else if NS.any (ahB f d) = true then 11 else if (spR f d BS NS []).2 ≠ 0 then (spR f d BS NS []).2 else
  if 200 < coR NS ∨ 24 < mxR (dpR BS NS []) then 14 else 0

/- nodes that are sound where they stand -/
structure Wn (BS : List Int) (i : Nat) (n : Nd) : Prop where
  lo : 1 ≤ n.op
  hi : n.op ≤ 28
  pr : 0 ≤ prZ n.op
  ar : n.op ≠ 4 → arZ n.op = prZ n.op
  use : n.op = 4 → 0 ≤ n.k ∧ n.k.toNat < BS.length ∧ 0 ≤ BS.getD n.k.toNat 0 ∧ (BS.getD n.k.toNat 0).toNat < i
  prt : ∀ p ∈ prts n, 0 ≤ p ∧ p.toNat < i
  num : n.op = 1 → 0 ≤ n.k ∧ n.k ≤ 2147483647
  inp : n.op = 2 → 0 ≤ n.k ∧ n.k ≤ 5
  wf : (plOf n).wf
def Wl (BS : List Int) : Nat → List Nd → Prop
  | _, [] => True
  | i, n :: r => Wn BS i n ∧ Wl BS (i + 1) r
theorem wl_app (BS : List Int) : ∀ (A B : List Nd) (i : Nat), Wl BS i (A ++ B) ↔ Wl BS i A ∧ Wl BS (i + A.length) B
  | [], B, i => by simp [Wl]
  | n :: A, B, i => by
    simp only [List.cons_append, Wl, List.length_cons]
    rw [wl_app BS A B (i + 1), show i + 1 + A.length = i + (A.length + 1) by omega]
    constructor
    · rintro ⟨a, b, c⟩; exact ⟨⟨a, b⟩, c⟩
    · rintro ⟨⟨a, b⟩, c⟩; exact ⟨a, b, c⟩
theorem wl_at {BS : List Int} : ∀ {NS : List Nd} {s i : Nat}, Wl BS s NS → i < NS.length → Wn BS (s + i) (NS.getD i n0)
  | [], s, i, h, hi => by simp at hi
  | n :: NS, s, 0, h, hi => by simpa using h.1
  | n :: NS, s, i + 1, h, hi => by
    have := wl_at (i := i) h.2 (by simpa using hi)
    rw [show s + 1 + i = s + (i + 1) by omega] at this
    simpa using this

theorem pr_zero {o : Int} (h : prZ o = 0) : o = 1 ∨ o = 2 ∨ o = 3 ∨ o = 4 := by
  unfold prZ arZ at h
  repeat' split at h
  all_goals omega
theorem pr_pos {o : Int} (h : 0 < prZ o) : 5 ≤ o ∧ o ≤ 28 ∧ arZ o = prZ o := by
  have h0 := h
  unfold prZ at h
  split at h
  · omega
  · split at h
    · omega
    · rename_i h1 h2
      refine ⟨?_, by omega, by unfold prZ; rw [if_neg h1, if_neg h2]⟩
      unfold arZ at h
      repeat' split at h
      all_goals omega
theorem ar_same (o : Int) : Spn.ar o = arZ o := by
  unfold Spn.ar arZ Spn.inB
  by_cases h1 : o = 1 ∨ o = 2 ∨ o = 3
  · rw [if_pos h1, if_pos h1]
  rw [if_neg h1, if_neg h1]
  by_cases h2 : 5 ≤ o ∧ o ≤ 7
  · rw [if_pos (.inl (by simp; omega)), if_pos h2]
  by_cases h3 : 29 ≤ o ∧ o ≤ 33
  · rw [if_pos (.inr (by simp; omega)), if_neg h2, if_pos h3]
  rw [if_neg (by simp; omega), if_neg h2, if_neg h3]
  by_cases h4 : 8 ≤ o ∧ o ≤ 25
  · rw [if_pos (by simp; omega), if_pos h4]
  rw [if_neg (by simp; omega), if_neg h4]
  by_cases h5 : 26 ≤ o ∧ o ≤ 28
  · rw [if_pos (by simp; omega), if_pos h5]
  rw [if_neg (by simp; omega), if_neg h5]

theorem wn_leaf {BS : List Int} {bd i : Nat} {n : Nd} (h : Gd bd (.leaf n)) (hb : bd ≤ BS.length) (hu : ∀ k, k < bd → 0 ≤ BS.getD k 0 ∧ (BS.getD k 0).toNat < i) : Wn BS i n := by
  obtain ⟨h1, h2, h3, h4, h5⟩ := h
  have hp : prts n = [] := by unfold prts; rw [h4]; rfl
  unfold fldP at h5
  have hw : (plOf n).wf := by
    unfold Knd.Plc.wf Knd.wf64 plOf
    dsimp only
    split at h5
    · simp only [mayP, wthn, MX, Bool.and_eq_true, decide_eq_true_eq, beq_iff_eq, Bool.or_eq_true] at h5
      omega
    · simp only [plc0, Bool.and_eq_true, beq_iff_eq] at h5
      obtain ⟨⟨⟨⟨a, b⟩, c⟩, e⟩, -⟩ := h5
      simp only [a, b, c, e]
      omega
  have hk : n.op ≠ 3 → 0 ≤ n.k ∧ n.k ≤ mostZ n.op bd := by
    intro h
    rw [if_neg h] at h5
    simp only [wthn, Bool.and_eq_true, decide_eq_true_eq] at h5
    exact h5.2
  refine ⟨by have := pr_zero h4; omega, by have := pr_zero h4; omega, by omega, fun h => ?_, fun h => ?_, by rw [hp]; simp, fun h => ?_, fun h => ?_, hw⟩
  · rcases pr_zero h4 with e | e | e | e
    · rw [h4, e]; rfl
    · rw [h4, e]; rfl
    · rw [h4, e]; rfl
    · exact absurd e h
  · obtain ⟨a, b⟩ := hk (by omega)
    rw [h] at b
    have e : mostZ 4 bd = (bd : Int) - 1 := rfl
    rw [e] at b
    have := hu n.k.toNat (by omega)
    exact ⟨a, by omega, this.1, this.2⟩
  · obtain ⟨a, b⟩ := hk (by omega)
    rw [h] at b
    have e : mostZ 1 bd = 2147483647 := rfl
    rw [e] at b
    exact ⟨a, b⟩
  · obtain ⟨a, b⟩ := hk (by omega)
    rw [h] at b
    have e : mostZ 2 bd = 5 := rfl
    rw [e] at b
    exact ⟨a, b⟩
theorem wn_in {BS : List Int} {i : Nat} {o a b c : Int} (h : 0 < prZ o) (hp : ∀ p ∈ [a, b, c].take (prZ o).toNat, 0 ≤ p ∧ p.toNat < i) : Wn BS i ⟨o, a, b, c, 0, 0, 0, 0, 0⟩ := by
  obtain ⟨h1, h2, h3⟩ := pr_pos h
  refine ⟨?_, h2, ?_, fun _ => h3, fun e => ?_, hp, fun e => ?_, fun e => ?_, ?_⟩
  · show (1 : Int) ≤ o; omega
  · show 0 ≤ prZ o; omega
  · exfalso; have : o = 4 := e; omega
  · exfalso; have : o = 1 := e; omega
  · exfalso; have : o = 2 := e; omega
  · unfold Knd.Plc.wf Knd.wf64 plOf; simp only; omega
theorem wl_e {BS : List Int} {bd : Nat} (hb : bd ≤ BS.length) : ∀ (e : E) (s : Nat), Gd bd e → (∀ k, k < bd → 0 ≤ BS.getD k 0 ∧ (BS.getD k 0).toNat < s) → Wl BS s (e.flat s)
  | .leaf n, s, h, hu => ⟨wn_leaf h hb hu, trivial⟩
  | .un o a, s, h, hu => by
    have h1 := a.size_pos
    rw [E.flat, wl_app, E.flat_len]
    refine ⟨wl_e hb a s h.2 hu, wn_in (by rw [h.1]; decide) ?_, trivial⟩
    rw [h.1]
    simp only [show ((1 : Int)).toNat = 1 from rfl, List.take_succ_cons, List.take_zero, List.mem_cons, List.not_mem_nil, or_false, forall_eq]
    omega
  | .bin o a b, s, h, hu => by
    have h1 := a.size_pos
    have h2 := b.size_pos
    rw [E.flat, wl_app, wl_app, List.length_append, E.flat_len, E.flat_len]
    refine ⟨⟨wl_e hb a s h.2.1 hu, wl_e hb b _ h.2.2 fun k hk => ⟨(hu k hk).1, by have := (hu k hk).2; omega⟩⟩, wn_in (by rw [h.1]; decide) ?_, trivial⟩
    rw [h.1]
    simp only [show ((2 : Int)).toNat = 2 from rfl, List.take_succ_cons, List.take_zero, List.mem_cons, List.not_mem_nil, or_false, forall_eq_or_imp, forall_eq]
    omega
  | .tri o a b c, s, h, hu => by
    have h1 := a.size_pos
    have h2 := b.size_pos
    have h3 := c.size_pos
    rw [E.flat, wl_app, wl_app, wl_app]
    simp only [List.length_append, E.flat_len]
    refine ⟨⟨⟨wl_e hb a s h.2.1 hu, wl_e hb b _ h.2.2.1 fun k hk => ⟨(hu k hk).1, by have := (hu k hk).2; omega⟩⟩, ?_⟩, wn_in (by rw [h.1]; decide) ?_, trivial⟩
    · rw [show s + (a.size + b.size) = s + a.size + b.size by omega]
      exact wl_e hb c _ h.2.2.2 fun k hk => ⟨(hu k hk).1, by have := (hu k hk).2; omega⟩
    · rw [h.1]
      simp only [show ((3 : Int)).toNat = 3 from rfl, List.take_succ_cons, List.take_zero, List.mem_cons, List.not_mem_nil, or_false, forall_eq_or_imp, forall_eq]
      omega
theorem szL_take : ∀ (es : List E) (m : Nat), szL (es.take m) ≤ szL es
  | [], m => by simp
  | a :: es, 0 => by simp [szL]
  | a :: es, m + 1 => by simp only [List.take_succ_cons, szL]; have := szL_take es m; omega
theorem bd_lt : ∀ (es : List E) (s k : Nat), k < es.length → 0 ≤ (bdL es s).getD k 0 ∧ ((bdL es s).getD k 0).toNat < s + szL (es.take (k + 1))
  | [], s, k, h => by simp at h
  | a :: es, s, 0, h => by
    have := a.size_pos
    simp only [bdL, List.getD_cons_zero, List.take_succ_cons, List.take_zero, szL]
    omega
  | a :: es, s, k + 1, h => by
    have := bd_lt es (s + a.size) k (by simpa using h)
    simp only [bdL, List.getD_cons_succ, List.take_succ_cons, szL]
    omega
theorem wl_L {BS : List Int} : ∀ (es pre : List E), BS = bdL (pre ++ es) 0 → (∀ j e, es[j]? = some e → Gd (pre.length + j) e) → Wl BS (szL pre) (flL es (szL pre))
  | [], pre, h, hg => trivial
  | a :: es, pre, h, hg => by
    have hl : BS.length = pre.length + (es.length + 1) := by rw [h, bdL_len]; simp
    rw [flL, wl_app, E.flat_len]
    constructor
    · refine wl_e (bd := pre.length) (by omega) a _ (by simpa using hg 0 a rfl) fun k hk => ?_
      have h1 := bd_lt (pre ++ a :: es) 0 k (by simp; omega)
      rw [← h, List.take_append_of_le_length (by omega)] at h1
      have h2 := szL_take pre (k + 1)
      omega
    · have := wl_L (BS := BS) es (pre ++ [a]) (by rw [h]; simp) fun j e he => by
        have := hg (j + 1) e (by simpa using he)
        simp only [List.length_append, List.length_cons, List.length_nil]
        rw [show pre.length + (0 + 1) + j = pre.length + (j + 1) by omega]
        exact this
      rwa [szL_app, show szL [a] = a.size by simp [szL]] at this
theorem Dec.wl {NM : List Txt} {BS : List Int} {NS : List Nd} {root : Int} {es : List E} {ex : E} (h : Dec NM BS NS root es ex) : Wl BS 0 NS := by
  rw [h.nodes, wl_app, flL_len, Nat.zero_add]
  constructor
  · have := wl_L (BS := BS) es [] (by simpa using h.binds) (by simpa using h.gd)
    simpa [szL] using this
  · refine wl_e (bd := es.length) (by rw [h.binds, bdL_len]; exact Nat.le_refl _) ex _ h.gx fun k hk => ?_
    have h1 := bd_lt es 0 k hk
    rw [← h.binds] at h1
    have h2 := szL_take es (k + 1)
    omega

/- the spans of more nodes -/
theorem spR_app (f d : Int) (BS : List Int) : ∀ (A B : List Nd) (S : Sps), spR f d BS (A ++ B) S = if (spR f d BS A S).2 = 0 then spR f d BS B (spR f d BS A S).1 else ([], (spR f d BS A S).2)
  | [], B, S => by simp [spR]
  | n :: A, B, S => by
    simp only [List.cons_append, spR]
    split
    · exact spR_app f d BS A B _
    · rfl
theorem spR_len {f d : Int} {BS : List Int} : ∀ {A : List Nd} {S T : Sps}, spR f d BS A S = (T, 0) → T.length = S.length + A.length
  | [], S, T, h => by cases h; rfl
  | n :: A, S, T, h => by
    simp only [spR] at h
    split at h
    · have := spR_len h
      simp only [List.length_append, List.length_cons, List.length_nil] at this ⊢
      omega
    · rename_i h1; exact absurd (congrArg Prod.snd h) h1
theorem spR_snoc {f d : Int} {BS : List Int} {A : List Nd} {n : Nd} {S T : Sps} (h : spR f d BS A S = (T, 0)) : spR f d BS (A ++ [n]) S = if (spN f d BS T n).2 = 0 then (T ++ [(spN f d BS T n).1], 0) else ([], (spN f d BS T n).2) := by
  rw [spR_app, h]; simp only [spR, if_true]
theorem spR_bad {f d : Int} {BS : List Int} {A B : List Nd} {S T : Sps} {e : Int} (h : spR f d BS A S = (T, e)) (he : e ≠ 0) : spR f d BS (A ++ B) S = ([], e) := by
  rw [spR_app, h]; exact if_neg he
theorem dpR_app (BS : List Int) : ∀ (A B : List Nd) (D : List Int), dpR BS (A ++ B) D = dpR BS B (dpR BS A D)
  | [], B, D => rfl
  | n :: A, B, D => dpR_app BS A B _
theorem dpR_len (BS : List Int) : ∀ (A : List Nd) (D : List Int), (dpR BS A D).length = D.length + A.length
  | [], D => rfl
  | n :: A, D => by rw [dpR, dpR_len BS A]; simp; omega
theorem fold_max_le : ∀ (L : List Int) (a m : Int), a ≤ m → (∀ x ∈ L, x ≤ m) → L.foldl max a ≤ m
  | [], a, m, h, _ => h
  | x :: L, a, m, h, hl => fold_max_le L _ m (by have := hl x (by simp); omega) fun y hy => hl y (by simp [hy])
theorem le_fold_max : ∀ (L : List Int) (a : Int), a ≤ L.foldl max a
  | [], a => Int.le_refl _
  | x :: L, a => Int.le_trans (Int.le_max_left a x) (le_fold_max L _)
theorem mem_fold_max : ∀ (L : List Int) (a x : Int), x ∈ L → x ≤ L.foldl max a
  | y :: L, a, x, h => by
    rcases List.mem_cons.1 h with rfl | h
    · exact Int.le_trans (Int.le_max_right a x) (le_fold_max L _)
    · exact mem_fold_max L _ x h
def Db (D : List Int) : Prop := ∀ x ∈ D, 1 ≤ x ∧ x ≤ D.length
theorem Db.at {D : List Int} (h : Db D) {i : Nat} (hi : i < D.length) : 1 ≤ D.getD i 0 ∧ D.getD i 0 ≤ D.length := by
  rw [List.getD_eq_getElem?_getD, List.getElem?_eq_getElem hi]
  exact h _ (List.getElem_mem hi)
theorem dpN_in {BS D : List Int} {n : Nd} (h : Db D) (hn : Wn BS D.length n) : 1 ≤ dpN BS D n ∧ dpN BS D n ≤ D.length + 1 := by
  unfold dpN
  split
  · rename_i h4
    obtain ⟨-, -, -, h2⟩ := hn.use h4
    have := h.at h2
    omega
  · have h1 := le_fold_max ((prts n).map fun p => D.getD p.toNat 0) 0
    have h2 := fold_max_le ((prts n).map fun p => D.getD p.toNat 0) 0 D.length (by omega) fun x hx => by
      obtain ⟨p, hp, rfl⟩ := List.mem_map.1 hx
      exact (h.at (hn.prt p hp).2).2
    omega
theorem Db.snoc {BS D : List Int} {n : Nd} (h : Db D) (hn : Wn BS D.length n) : Db (D ++ [dpN BS D n]) := by
  have h1 := dpN_in h hn
  intro x hx
  simp only [List.length_append, List.length_cons, List.length_nil]
  rcases List.mem_append.1 hx with hx | hx
  · have := h x hx; omega
  · simp at hx; subst hx; omega
theorem Db.all {BS : List Int} : ∀ {A : List Nd} {D : List Int}, Db D → Wl BS D.length A → Db (dpR BS A D)
  | [], D, h, _ => h
  | n :: A, D, h, hw => by
    rw [dpR]
    exact Db.all (h.snoc hw.1) (by simpa using hw.2)
theorem coR_from : ∀ (A : List Nd) (a : Int), A.foldl (fun s n => s + coZ n.op) a = a + coR A
  | [], a => by simp [coR]
  | n :: A, a => by
    rw [List.foldl_cons, coR_from A]
    show a + coZ n.op + coR A = a + (n :: A).foldl (fun s n => s + coZ n.op) 0
    rw [List.foldl_cons, coR_from A]
    omega
theorem coR_snoc (A : List Nd) (n : Nd) : coR (A ++ [n]) = coR A + coZ n.op := by
  unfold coR; rw [List.foldl_append]; rfl
theorem coZ_in (o : Int) : 0 ≤ coZ o ∧ coZ o ≤ 6 := by unfold coZ; repeat' split <;> omega
theorem coR_in (A : List Nd) : 0 ≤ coR A ∧ coR A ≤ 6 * A.length := by
  induction A with
  | nil => simp [coR]
  | cons n A ih =>
    have := coZ_in n.op
    rw [coR, List.foldl_cons, coR_from]
    simp only [List.length_cons]
    omega
theorem take_snoc {α : Type} (z : α) {L : List α} {k : Nat} (h : k < L.length) : L.take (k + 1) = L.take k ++ [L.getD k z] := by
  rw [List.take_add_one, List.getElem?_eq_getElem h, List.getD_eq_getElem?_getD, List.getElem?_eq_getElem h]
  rfl

end Go.Proofs.YtlhbgkaknfhlnaaGreat

/-
  Check's small functions: Cost, the parts of a node, the costs' sum, the greatest.
-/
namespace Go.Proofs.YtlhbgkaknfhlnaaGreat
open Go.RowKit Go.IntWalk Lx Pz
set_option linter.unusedVariables false

abbrev ab3 (n : Nd) : Array Value := #[.int .i64 n.a, .int .i64 n.b, .int .i64 n.c]
/-- What the parts of a node are, in memory of their own. -/
def PaP (w : World) (n : Nd) (k : Nat) (e : Ending) (W' : World) : Prop := ∃ g, e = .returned (.slice (some ⟨g, 0, none⟩) k 3) ∧ w.heap.size ≤ g ∧ HasC W' g 3 (ab3 n) ∧ Below w.heap.size w W'

set_option maxRecDepth 100000 in
set_option maxHeartbeats 4000000 in
theorem partsOf_any (n : Nd) (k : Nat) (hk : arZ n.op = (k : Int)) (h3 : k ≤ 3) (w : World) : Calls Tryz.prog 55 #[.agg (ndA n)] w (PaP w n k) := by
  have HA := hide fun W => arity_any n.op W
  rw [hk] at HA
  have HB := hide (bel1 w (.cells (ndA n) 78))
  obtain ⟨f0, f1, f2, f3, f4, f5, f6, f7, f8⟩ := (HasC.new w 78 (ndA n)).nine
  have hz : w.heap.size < (w.alloc (.cells (ndA n) 78)).heap.size := by simp
  clear hk
  have hk0 : (0 : Int) ≤ k := by omega
  have hk1 : (k : Int) ≤ 3 := by omega
  go_enter Tryz.func55, Tryz.ntmps55
  go_wp2_with fail
  go_region_held3 (fun w' => w'.cell? ⟨w.heap.size, 0, none⟩ = some (.int .i64 n.op) ∧ w'.cell? ⟨w.heap.size, 1, none⟩ = some (.int .i64 n.a) ∧ w'.cell? ⟨w.heap.size, 2, none⟩ = some (.int .i64 n.b) ∧ w'.cell? ⟨w.heap.size, 3, none⟩ = some (.int .i64 n.c))
    (first | exact ⟨f0, f1, f2, f3⟩ | go_keep)
    ((first
      | (go_at_call 56; refine (HA.out _).mono ?_; rintro e w2 ⟨rfl, rfl⟩)))
  all_goals
    go_wp2
    go_ret
    have h5 := HasC.new (w.alloc (.cells (ndA n) 78)) 3 (ab3 n)
    rw [World.size_alloc] at h5
    exact ⟨w.heap.size + 1, rfl, Nat.le_succ _, h5, (HB.out.alloc HB.out.size _).drew⟩

end Go.Proofs.YtlhbgkaknfhlnaaGreat

/-
  Check's small functions: Cost, the parts of a node, the costs' sum, the greatest.
-/
namespace Go.Proofs.YtlhbgkaknfhlnaaGreat
open Go.RowKit Go.IntWalk Lx Pz
set_option linter.unusedVariables false

set_option maxHeartbeats 1000000 in
theorem cost_any (o : Int) (W : World) : Calls Tryz.prog 36 #[.int .i64 o] W fun e W' => e = .returned (.int .i64 (coZ o)) ∧ W' = W := by
  by_cases h1 : o = 4
  · subst h1
    go_enter Tryz.func36, Tryz.ntmps36
    go_wp2
    go_ret
    exact ⟨rfl, rfl⟩
  by_cases h2 : o = 11
  · subst h2
    go_enter Tryz.func36, Tryz.ntmps36
    go_wp2
    go_ret
    exact ⟨rfl, rfl⟩
  by_cases h3 : o = 12
  · subst h3
    go_enter Tryz.func36, Tryz.ntmps36
    go_wp2
    go_ret
    exact ⟨rfl, rfl⟩
  have e : coZ o = 1 := by unfold coZ; rw [if_neg h1, if_neg h2, if_neg h3]
  rw [e]
  have e1 : (o == 4) = false := by simpa using h1
  have e2 : (o == 11) = false := by simpa using h2
  have e3 : (o == 12) = false := by simpa using h3
  clear h1 h2 h3 e
  go_enter Tryz.func36, Tryz.ntmps36
  go_wp2
  go_ret
  exact ⟨rfl, rfl⟩

set_option maxRecDepth 100000 in
set_option maxHeartbeats 4000000 in
theorem costOf_any {W : World} {da : Option Addr} {dl dc : Nat} {NS : List Nd} (hN : Nz W da dl dc NS) (hd : dl ≤ 1024) :
    Calls Tryz.prog 29 #[.slice da dl dc] W fun e W' => e = .returned (.int .i64 (coR NS)) ∧ Below W.heap.size W W' := by
  have HNI := hide hN
  have HLN := hide hN.len
  clear hN
  go_enter Tryz.func29, Tryz.ntmps29
  go_wp2_with fail
  go_loopw [3, 8] (fun s i wr => ∃ (k : Nat) (c : Int), k ≤ dl ∧ i = .int .i64 k ∧ s = .int .i64 c ∧ 0 ≤ c ∧ c ≤ 6 * k ∧ Hid (c = coR (NS.take k)) ∧ Hid (Below W.heap.size W wr)) (fun _ i _ => dl - (intOf i).toNat)
  case atStart => exact ⟨0, 0, Nat.zero_le _, rfl, rfl, Int.le_refl _, Int.le_refl _, hide rfl, hide (Below.refl _ _)⟩
  case round =>
    obtain ⟨k, c, hk, rfl, rfl, hc0, hc6, HC, HB⟩ := hrel
    rename World => V
    by_cases hlt : k < dl
    · obtain ⟨g, off, rfl, hat⟩ := (HNI.out.later HB.out).at (by omega)
      obtain ⟨e0, e1, e2, e3, e4, e5, e6, e7, e8⟩ := hat k hlt
      clear hat
      have hi0 : (0 : Int) ≤ k := by omega
      have hi1 : (k : Int) < dl := by omega
      have HC2 := hide (show c + coZ (NS.getD k n0).op = coR (NS.take (k + 1)) by rw [take_snoc n0 (by rw [HLN.out]; exact hlt), coR_snoc, HC.out])
      obtain ⟨z0, z6⟩ := coZ_in (NS.getD k n0).op
      generalize NS.getD k n0 = n at *
      go_wp2_with fail
      refine (cost_any _ _).mono ?_
      rintro e V1 ⟨rfl, rfl⟩
      generalize coZ n.op = z at *
      go_wp2_with fail
      go_roundw
      case rel => exact ⟨k + 1, c + z, by omega, by go_num, by go_num, by omega, by omega, hide HC2.out, hide (bel HB.out (bel1 _ _))⟩
      case measure => simp [intOf]; omega
    · obtain rfl : k = dl := by omega
      go_wp2_with fail
      go_ret
      have e : NS.take k = NS := List.take_of_length_le (by rw [HLN.out]; exact Nat.le_refl _)
      exact ⟨ret_int (show c = coR NS by rw [HC.out, e]), HB.out⟩

theorem max_snoc (D : List Int) (k : Nat) (hk : k < D.length) : (D.take (k + 1)).foldl max 0 = max ((D.take k).foldl max 0) (D.getD k 0) := by
  rw [take_snoc 0 hk, List.foldl_append]; rfl

set_option maxRecDepth 100000 in
set_option maxHeartbeats 4000000 in
theorem smax_any {W : World} {a : Option Addr} {n cap : Nat} {D : List Int} (hD : Iz W a n cap D) (hn : 1 ≤ n) (h1 : ∀ x ∈ D, 1 ≤ x) :
    Calls Tryz.prog 30 #[.slice a n cap] W fun e W' => e = .returned (.int .i64 (mxR D)) ∧ W' = W := by
  have hm : n ≤ 9223372036854775807 := by have := hD.le; have := hD.max; unfold maxLen at *; omega
  obtain ⟨b, off, rfl, hc⟩ : ∃ b off, a = some ⟨b, off, none⟩ ∧ ∀ i, i < n → W.cell? ⟨b, off + i, none⟩ = some (.int .i64 (D.getD i 0)) := by
    rcases hD.cell with h0 | ⟨b, off, ha, -, hc⟩
    · omega
    · exact ⟨b, off, ha, hc⟩
  have HLN := hide hD.len
  have c0 := hc 0 (by omega)
  rw [Nat.add_zero] at c0
  have hi0 : (1 : Int) ≤ n := by omega
  have hi1 : (0 : Int) < n := by omega
  have H0 := hide (show D.getD 0 0 = (D.take 1).foldl max 0 by
    have h2 := max_snoc D 0 (by rw [hD.len]; omega)
    have h3 : 1 ≤ D.getD 0 0 := by
      rw [List.getD_eq_getElem?_getD, List.getElem?_eq_getElem (by rw [hD.len]; omega)]
      exact h1 _ (List.getElem_mem _)
    rw [h2]
    simp only [List.take_zero, List.foldl_nil]
    omega)
  have HC := hide hc
  clear hc hD h1
  generalize D.getD 0 0 = d0 at *
  go_enter Tryz.func30, Tryz.ntmps30
  go_wp2_with fail
  go_loop [3, 4] (fun m i => ∃ (k : Nat) (c : Int), 1 ≤ k ∧ k ≤ n ∧ i = .int .i64 k ∧ m = .int .i64 c ∧ Hid (c = (D.take k).foldl max 0)) (fun _ i => n - (intOf i).toNat)
  case atStart => exact ⟨1, d0, Nat.le_refl _, hn, rfl, rfl, H0⟩
  case round =>
    obtain ⟨k, c, hk1, hk, rfl, rfl, HM⟩ := hrel
    by_cases hlt : k < n
    · have c1 := HC.out k hlt
      have j0 : (0 : Int) ≤ k := by omega
      have j1 : (k : Int) < n := by omega
      have HM2 := hide (show max c (D.getD k 0) = (D.take (k + 1)).foldl max 0 by rw [max_snoc D k (by rw [HLN.out]; exact hlt), HM.out])
      generalize D.getD k 0 = x at *
      go_wp2_with fail
      go_round
      case rel => exact ⟨k + 1, max c x, by omega, by omega, by go_num, rfl, HM2⟩
      case measure => simp [intOf]; omega
    · obtain rfl : k = n := by omega
      go_wp2_with fail
      go_ret
      have e : D.take k = D := List.take_of_length_le (by rw [HLN.out]; exact Nat.le_refl _)
      exact ⟨ret_int (show c = mxR D by rw [HM.out, e]; rfl), rfl⟩

end Go.Proofs.YtlhbgkaknfhlnaaGreat
