/-
  Two choices in one program: what Check and Eval answer of them, plainly.
-/
import Derived.Test.YtimdcmponhcngaaGreatZHd
import Derived.Test.YtimdcmponhcngaaGreatZCb
import Derived.Test.YtimdcmponhcngaaGreatZT2
namespace Go.Proofs.YtimdcmponhcngaaGreat
open Lx Pz
set_option linter.unusedVariables false

/-- The node m is n, its parts k nodes further on. -/
structure ShN (k : Nat) (n m : Nd) : Prop where
  op : m.op = n.op
  kk : m.k = n.k
  pl : plOf m = plOf n
  pr : prts m = (prts n).map (· + (k : Int))
def ShL (k : Nat) : List Nd → List Nd → Prop
  | [], [] => True
  | n :: N, m :: M => ShN k n m ∧ ShL k N M
  | _, _ => False
theorem ShL.app {k : Nat} : ∀ {A A' B B' : List Nd}, ShL k A A' → ShL k B B' → ShL k (A ++ B) (A' ++ B')
  | [], [], B, B', _, h => h
  | n :: A, m :: A', B, B', h, h2 => ⟨h.1, ShL.app h.2 h2⟩
  | [], _ :: _, _, _, h, _ => h.elim
  | _ :: _, [], _, _, h, _ => h.elim
theorem shn_leaf (k : Nat) {n : Nd} (h : prZ n.op = 0) : ShN k n n := ⟨rfl, rfl, rfl, by unfold prts; rw [h]; rfl⟩
theorem shL_flat (k : Nat) {bd : Nat} : ∀ (e : E) (s : Nat), Gd bd e → ShL k (e.flat s) (e.flat (s + k))
  | .leaf n, s, h => ⟨shn_leaf k h.2.2.2.1, trivial⟩
  | .un o a, s, h => by
    rw [E.flat, E.flat]
    refine (shL_flat k a s h.2).app ⟨⟨rfl, rfl, rfl, ?_⟩, trivial⟩
    unfold prts
    simp only [h.1]
    simp only [show ((1 : Int)).toNat = 1 from rfl, List.take_succ_cons, List.take_zero, List.map_cons, List.map_nil, List.cons.injEq, and_true]
    omega
  | .bin o a b, s, h => by
    rw [E.flat, E.flat, show s + k + a.size = s + a.size + k by omega]
    refine ((shL_flat k a s h.2.1).app (shL_flat k b (s + a.size) h.2.2)).app ⟨⟨rfl, rfl, rfl, ?_⟩, trivial⟩
    unfold prts
    simp only [h.1]
    simp only [show ((2 : Int)).toNat = 2 from rfl, List.take_succ_cons, List.take_zero, List.map_cons, List.map_nil, List.cons.injEq, and_true]
    omega
  | .tri o a b c, s, h => by
    rw [E.flat, E.flat, show s + k + a.size = s + a.size + k by omega, show s + a.size + k + b.size = s + a.size + b.size + k by omega]
    refine (((shL_flat k a s h.2.1).app (shL_flat k b (s + a.size) h.2.2.1)).app (shL_flat k c (s + a.size + b.size) h.2.2.2)).app ⟨⟨rfl, rfl, rfl, ?_⟩, trivial⟩
    unfold prts
    simp only [h.1]
    simp only [show ((3 : Int)).toNat = 3 from rfl, List.take_succ_cons, List.take_zero, List.map_cons, List.map_nil, List.cons.injEq, and_true]
    omega

theorem getD_off {α : Type} {S T : List α} {k : Nat} (hk : S.length = k) (z : α) {p : Int} (h0 : 0 ≤ p) : (S ++ T).getD (p + (k : Int)).toNat z = T.getD p.toNat z := by
  rw [show (p + (k : Int)).toNat = k + p.toNat by omega, List.getD_eq_getElem?_getD, List.getD_eq_getElem?_getD, List.getElem?_append_right (by omega), show k + p.toNat - S.length = p.toNat by omega]
theorem map_off {α : Type} {S T : List α} {k : Nat} (hk : S.length = k) (z : α) : ∀ (P : List Int), (∀ p ∈ P, 0 ≤ p) → (P.map (· + (k : Int))).map (fun p => (S ++ T).getD p.toNat z) = P.map fun p => T.getD p.toNat z
  | [], _ => rfl
  | p :: P, h => by
    simp only [List.map_cons]
    rw [getD_off hk z (h p (by simp))]
    congr 1
    exact map_off hk z P fun q hq => h q (by simp [hq])
theorem wn_nouse {i : Nat} {n : Nd} (h : Wn [] i n) : n.op ≠ 4 := fun h4 => by have := (h.use h4).2.1; simp at this
theorem spN_sh {f d : Int} {BS : List Int} {S T : Sps} {k i : Nat} {n m : Nd} (hs : ShN k n m) (hk : S.length = k) (hn : Wn [] i n) : spN f d BS (S ++ T) m = spN f d [] T n := by
  unfold spN
  rw [hs.op, if_neg (wn_nouse hn), if_neg (wn_nouse hn), hs.kk, hs.pr, map_off hk _ _ fun p hp => (hn.prt p hp).1]
theorem dpN_sh {BS S T : List Int} {k i : Nat} {n m : Nd} (hs : ShN k n m) (hk : S.length = k) (hn : Wn [] i n) : dpN BS (S ++ T) m = dpN [] T n := by
  unfold dpN
  rw [hs.op, if_neg (wn_nouse hn), if_neg (wn_nouse hn), hs.pr, map_off hk _ _ fun p hp => (hn.prt p hp).1]
theorem vaN_sh {f d : Int} {v : Wd} {BS S T : List Int} {k i : Nat} {n m : Nd} (hs : ShN k n m) (hk : S.length = k) (hn : Wn [] i n) : vaN f d v BS (S ++ T) m = vaN f d v [] T n := by
  unfold vaN opV smpV
  rw [hs.op, if_neg (wn_nouse hn), if_neg (wn_nouse hn), hs.kk, hs.pl, hs.pr, map_off hk _ _ fun p hp => (hn.prt p hp).1]
theorem spR_sh {f d : Int} {BS : List Int} {S : Sps} {k : Nat} (hk : S.length = k) : ∀ (N M : List Nd) (T : Sps), ShL k N M → Wl [] T.length N → (spR f d BS M (S ++ T)).2 = (spR f d [] N T).2 ∧ ((spR f d [] N T).2 = 0 → (spR f d BS M (S ++ T)).1 = S ++ (spR f d [] N T).1)
  | [], [], T, _, _ => ⟨rfl, fun _ => rfl⟩
  | n :: N, m :: M, T, h, hw => by
    have e := spN_sh (f := f) (d := d) (BS := BS) (T := T) h.1 hk hw.1
    simp only [spR, e]
    split
    · rw [List.append_assoc]
      exact spR_sh hk N M _ h.2 (by simpa using hw.2)
    · rename_i h1; exact ⟨rfl, fun h => absurd h h1⟩
  | [], _ :: _, _, h, _ => h.elim
  | _ :: _, [], _, h, _ => h.elim
theorem dpR_sh {BS S : List Int} {k : Nat} (hk : S.length = k) : ∀ (N M : List Nd) (T : List Int), ShL k N M → Wl [] T.length N → dpR BS M (S ++ T) = S ++ dpR [] N T
  | [], [], T, _, _ => rfl
  | n :: N, m :: M, T, h, hw => by
    simp only [dpR, dpN_sh (BS := BS) (T := T) h.1 hk hw.1]
    rw [List.append_assoc]
    exact dpR_sh hk N M _ h.2 (by simpa using hw.2)
  | [], _ :: _, _, h, _ => h.elim
  | _ :: _, [], _, h, _ => h.elim
theorem vaR_sh {f d : Int} {v : Wd} {BS S : List Int} {k : Nat} (hk : S.length = k) : ∀ (N M : List Nd) (T : List Int), ShL k N M → Wl [] T.length N → vaR f d v BS M (S ++ T) = S ++ vaR f d v [] N T
  | [], [], T, _, _ => rfl
  | n :: N, m :: M, T, h, hw => by
    simp only [vaR, vaN_sh (f := f) (d := d) (v := v) (BS := BS) (T := T) h.1 hk hw.1]
    rw [List.append_assoc]
    exact vaR_sh hk N M _ h.2 (by simpa using hw.2)
  | [], _ :: _, _, h, _ => h.elim
  | _ :: _, [], _, h, _ => h.elim
theorem coR_sh {k : Nat} : ∀ {N M : List Nd}, ShL k N M → coR M = coR N
  | [], [], _ => rfl
  | n :: N, m :: M, h => by
    have h2 := coR_sh h.2
    unfold coR at h2 ⊢
    rw [List.foldl_cons, List.foldl_cons, coR_from, coR_from, h.1.op]
    unfold coR
    rw [h2]
  | [], _ :: _, h => h.elim
  | _ :: _, [], h => h.elim
theorem any_sh {f d : Int} {k : Nat} : ∀ {N M : List Nd}, ShL k N M → M.any (ahB f d) = N.any (ahB f d)
  | [], [], _ => rfl
  | n :: N, m :: M, h => by
    rw [List.any_cons, List.any_cons, any_sh h.2]
    unfold ahB
    rw [h.1.op, h.1.pl]
  | [], _ :: _, h => h.elim
  | _ :: _, [], h => h.elim
theorem coR_app (A B : List Nd) : coR (A ++ B) = coR A + coR B := by
  unfold coR; rw [List.foldl_append, coR_from]; rfl
theorem mx_le {D : List Int} {m : Int} (h0 : 0 ≤ m) : mxR D ≤ m ↔ ∀ x ∈ D, x ≤ m :=
  ⟨fun h x hx => Int.le_trans (mem_fold_max D 0 x hx) h, fun h => fold_max_le D 0 m h0 h⟩
theorem spR_use {f d : Int} {BS : List Int} : ∀ (NS : List Nd) (S : Sps), Wl [] S.length NS → spR f d BS NS S = spR f d [] NS S
  | [], S, h => rfl
  | n :: NS, S, h => by
    have e : spN f d BS S n = spN f d [] S n := by unfold spN; rw [if_neg (wn_nouse h.1), if_neg (wn_nouse h.1)]
    simp only [spR, e]
    split
    · exact spR_use NS _ (by simpa using h.2)
    · rfl
theorem dpR_use {BS : List Int} : ∀ (NS : List Nd) (S : List Int), Wl [] S.length NS → dpR BS NS S = dpR [] NS S
  | [], S, h => rfl
  | n :: NS, S, h => by
    have e : dpN BS S n = dpN [] S n := by unfold dpN; rw [if_neg (wn_nouse h.1), if_neg (wn_nouse h.1)]
    simp only [dpR, e]
    exact dpR_use NS _ (by simpa using h.2)
theorem vaR_use {f d : Int} {v : Wd} {BS : List Int} : ∀ (NS : List Nd) (S : List Int), Wl [] S.length NS → vaR f d v BS NS S = vaR f d v [] NS S
  | [], S, h => rfl
  | n :: NS, S, h => by
    have e : vaN f d v BS S n = vaN f d v [] S n := by unfold vaN; rw [if_neg (wn_nouse h.1), if_neg (wn_nouse h.1)]
    simp only [vaR, e]
    exact vaR_use NS _ (by simpa using h.2)
theorem dpR_pre (BS : List Int) : ∀ (A : List Nd) (D : List Int), ∃ R, dpR BS A D = D ++ R
  | [], D => ⟨[], by simp [dpR]⟩
  | n :: A, D => by
    obtain ⟨R, h⟩ := dpR_pre BS A (D ++ [dpN BS D n])
    exact ⟨dpN BS D n :: R, by rw [dpR, h]; simp⟩

/-- What holds of a program that begins with two choices. -/
theorem two_ck {f d : Int} {NM : List Txt} {BS : List Int} {A B B' R : List Nd} {ra rb root : Int} (hA : chkP [] [] A ra = true) (hB : chkP [] [] B rb = true) (hs : ShL A.length B B') (h : ckE f d NM BS (A ++ B' ++ R) root = 0) :
    ckE f d [] [] A ra = 0 ∧ ckE f d [] [] B rb = 0 := by
  obtain ⟨es, ex, hDA⟩ := chk_dec.1 hA
  obtain ⟨es', ex', hDB⟩ := chk_dec.1 hB
  have wA : Wl [] 0 A := hDA.wl
  have wB : Wl [] 0 B := hDB.wl
  obtain ⟨a1, a2, a3, a4, a5, a6⟩ := ck_zero.1 h
  rw [List.any_append, List.any_append, any_sh hs] at a3
  simp only [Bool.or_eq_false_iff] at a3
  rw [coR_app, coR_app, coR_sh hs] at a5
  have c1 := (coR_in A).1
  have c2 := (coR_in B).1
  have c3 := (coR_in R).1
  have d4 := a4
  rw [List.append_assoc, spR_app, spR_use A [] wA] at d4
  have e1 : (spR f d [] A []).2 = 0 := by
    apply Classical.byContradiction
    intro hn
    rw [if_neg hn] at d4
    exact hn d4
  rw [if_pos e1, spR_app] at d4
  have hl := spR_len (Prod.ext rfl e1 : spR f d [] A [] = (_, 0))
  simp only [List.length_nil, Nat.zero_add] at hl
  have hsh := spR_sh (f := f) (d := d) (BS := BS) hl B B' [] hs wB
  rw [List.append_nil] at hsh
  have e2 : (spR f d [] B []).2 = 0 := by
    apply Classical.byContradiction
    intro hn
    rw [if_neg (by rw [hsh.1]; exact hn)] at d4
    exact hn (hsh.1 ▸ d4)
  have d6 := a6
  rw [List.append_assoc, dpR_app, dpR_app, dpR_use A [] wA] at d6
  have hdl : (dpR [] A []).length = A.length := by rw [dpR_len]; simp
  have hdh := dpR_sh (BS := BS) hdl B B' [] hs wB
  rw [List.append_nil] at hdh
  rw [hdh] at d6
  obtain ⟨Q, hQ⟩ := dpR_pre BS R (dpR [] A [] ++ dpR [] B [])
  rw [hQ, mx_le (by decide)] at d6
  exact ⟨ck_zero.2 ⟨a1, hA, a3.1.1, e1, by omega, (mx_le (by decide)).2 fun x hx => d6 x (by simp [hx])⟩, ck_zero.2 ⟨a1, hB, a3.1.2, e2, by omega, (mx_le (by decide)).2 fun x hx => d6 x (by simp [hx])⟩⟩
theorem two_va {f d : Int} {v : Wd} {BS : List Int} {A B B' R : List Nd} {ra rb : Int} (hA : chkP [] [] A ra = true) (hB : chkP [] [] B rb = true) (hs : ShL A.length B B') :
    vaR f d v BS (A ++ B' ++ R) [] = vaR f d v BS R (vaR f d v [] A [] ++ vaR f d v [] B []) := by
  obtain ⟨es, ex, hDA⟩ := chk_dec.1 hA
  obtain ⟨es', ex', hDB⟩ := chk_dec.1 hB
  have wA : Wl [] 0 A := hDA.wl
  have wB : Wl [] 0 B := hDB.wl
  rw [List.append_assoc, vaR_app, vaR_app, vaR_use A [] wA]
  have hdl : (vaR f d v [] A []).length = A.length := by rw [vaR_len]; simp
  have := vaR_sh (f := f) (d := d) (v := v) (BS := BS) hdl B B' [] hs wB
  rw [List.append_nil] at this
  rw [this]

theorem last_val {f d : Int} {v : Wd} {NM : List Txt} {BS : List Int} {N : List Nd} {n : Nd} {root : Int} (h : ckE f d NM BS (N ++ [n]) root = 0) (hF : Fits f d v) (h5 : 5 ≤ n.op) :
    ∃ x, Spn.valZ n.op 0 0 ((prts n).map fun p => (vaR f d v BS N []).getD p.toNat 0) = (x, 0) ∧ vaR f d v BS (N ++ [n]) [] = vaR f d v BS N [] ++ [x] := by
  obtain ⟨a1, a2, a3, a4, a5, a6⟩ := ck_zero.1 h
  obtain ⟨es, ex, hD⟩ := chk_dec.1 a2
  have hw := hD.wl
  rw [wl_app, Nat.zero_add] at hw
  rw [spR_app] at a4
  have e1 : (spR f d BS N []).2 = 0 := by
    apply Classical.byContradiction
    intro hn
    rw [if_neg hn] at a4
    exact hn a4
  rw [if_pos e1] at a4
  have hI := vaR_in (v := v) hF N [] [] _ ⟨rfl, fun i hi => by simp at hi⟩ hw.1 (fun m hm h3 => ck_num h (by simp [hm]) h3) (Prod.ext rfl e1 : spR f d BS N [] = (_, 0))
  have hl := spR_len (Prod.ext rfl e1 : spR f d BS N [] = (_, 0))
  simp only [List.length_nil, Nat.zero_add] at hl
  simp only [spR] at a4
  have e2 : (spN f d BS (spR f d BS N []).1 n).2 = 0 := by
    apply Classical.byContradiction
    intro hn
    rw [if_neg hn] at a4
    exact hn a4
  unfold spN at e2
  rw [if_neg (by omega), if_neg (by omega), if_neg (by omega), if_neg (by omega)] at e2
  obtain ⟨x, h6, -, -⟩ := Spn.holds_all (Prod.ext rfl e2 : Spn.ofZ n.op 0 0 ((prts n).map fun p => (spR f d BS N []).1.getD p.toNat (0, 0)) = ((_, _), 0)) (hI.ins (prts n) fun p hp => by rw [hl]; exact (hw.2.1.prt p hp).2)
  refine ⟨x, h6, ?_⟩
  rw [vaR_snoc]
  congr 2
  unfold vaN
  rw [if_neg (by omega), if_neg (by omega), if_neg (by omega), if_neg (by omega)]
  unfold opV
  rw [h6]
theorem getD_l {L R : List Int} {i : Nat} (h : i < L.length) : (L ++ R).getD i 0 = L.getD i 0 := getI_pre h
theorem getD_r {L R : List Int} {i k : Nat} (hk : L.length = k) : (L ++ R).getD (k + i) 0 = R.getD i 0 := by
  rw [List.getD_eq_getElem?_getD, List.getD_eq_getElem?_getD, List.getElem?_append_right (by omega), show k + i - L.length = i by omega]

section
variable {f d : Int} {v : Wd} {ea eb : E} {o : Int}
noncomputable abbrev evEx (f d : Int) (v : Wd) (e : E) : Int := evE f d v [] (bdL [] 0) (nodesOf [] e) (rootOf [] e)
noncomputable abbrev evVx (f d : Int) (v : Wd) (e : E) : Int := evV f d v [] (bdL [] 0) (nodesOf [] e) (rootOf [] e)
theorem nodes_e (e : E) : nodesOf [] e = e.flat 0 := rfl
theorem root_e (e : E) : (rootOf [] e).toNat = e.size - 1 := by
  have := e.size_pos
  show (((szL [] + e.size : Nat) : Int) - 1).toNat = e.size - 1
  simp only [szL]
  omega
theorem evV_e (h : evEx f d v ea = 0) : evVx f d v ea = (vaR f d v [] (ea.flat 0) []).getD (ea.size - 1) 0 := by
  unfold evVx evV
  rw [if_pos h, root_e]
  rfl
/-- An operator between two choices. -/
theorem means_bin (ha : chkP [] [] (ea.flat 0) (rootOf [] ea) = true) (hb : chkP [] [] (eb.flat 0) (rootOf [] eb) = true) (hg : Gd 0 eb) (hp : prZ o = 2) (h : evEx f d v (.bin o ea eb) = 0) :
    evEx f d v ea = 0 ∧ evEx f d v eb = 0 ∧ Spn.valZ o 0 0 [evVx f d v ea, evVx f d v eb] = (evVx f d v (.bin o ea eb), 0) := by
  obtain ⟨h1, hF⟩ := evE_zero.1 h
  have hs := shL_flat ea.size eb 0 hg
  rw [Nat.zero_add] at hs
  have hla : (ea.flat 0).length = ea.size := E.flat_len ea 0
  rw [← hla] at hs
  have e0 : nodesOf [] (.bin o ea eb) = ea.flat 0 ++ eb.flat (ea.flat 0).length ++ [⟨o, (0 + ea.size : Nat) - 1, (0 + ea.size + eb.size : Nat) - 1, 0, 0, 0, 0, 0, 0⟩] := by
    rw [nodes_e, E.flat, hla, Nat.zero_add]
  have h2 := h1
  rw [e0] at h2
  obtain ⟨c1, c2⟩ := two_ck (ra := rootOf [] ea) (rb := rootOf [] eb) ha hb hs h2
  have za : evEx f d v ea = 0 := evE_zero.2 ⟨c1, hF⟩
  have zb : evEx f d v eb = 0 := evE_zero.2 ⟨c2, hF⟩
  refine ⟨za, zb, ?_⟩
  have ho := pr_pos (o := o) (by omega)
  obtain ⟨x, h3, h4⟩ := last_val (v := v) h2 hF ho.1
  have htwo := two_va (f := f) (d := d) (v := v) (BS := bdL [] 0) (R := []) ha hb hs
  rw [List.append_nil] at htwo
  rw [htwo] at h3 h4
  simp only [vaR] at h3 h4
  have pa := ea.size_pos
  have pb := eb.size_pos
  have la : (vaR f d v [] (ea.flat 0) []).length = ea.size := by rw [vaR_len, hla]; simp
  have lb : (vaR f d v [] (eb.flat 0) []).length = eb.size := by rw [vaR_len, E.flat_len]; simp
  have hpr : prts ⟨o, (0 + ea.size : Nat) - 1, (0 + ea.size + eb.size : Nat) - 1, 0, 0, 0, 0, 0, 0⟩ = [((0 + ea.size : Nat) : Int) - 1, ((0 + ea.size + eb.size : Nat) : Int) - 1] := by
    unfold prts; rw [hp]; rfl
  rw [hpr] at h3
  simp only [List.map_cons, List.map_nil] at h3
  rw [show (((0 + ea.size : Nat) : Int) - 1).toNat = ea.size - 1 by omega, show (((0 + ea.size + eb.size : Nat) : Int) - 1).toNat = ea.size + (eb.size - 1) by omega, getD_l (by omega), getD_r la] at h3
  rw [evV_e za, evV_e zb, h3]
  congr 1
  have e1 : evVx f d v (.bin o ea eb) = (vaR f d v (bdL [] 0) (nodesOf [] (.bin o ea eb)) []).getD (ea.size + eb.size) 0 := by
    unfold evVx evV
    rw [if_pos h, root_e]
    rfl
  rw [e1, e0, h4, show ea.size + eb.size = (ea.size + eb.size) + 0 by omega, getD_r (by rw [List.length_append, la, lb])]
  rfl
def selE : E := .tri 28 (.leaf (lf 4 0 0 0 0 0)) (.leaf (lf 4 1 0 0 0 0)) (.leaf (lf 4 0 0 0 0 0))
theorem val_sel {x y r : Int} (h : Spn.valZ 28 0 0 [x, y, x] = (r, 0)) : r = if x = 0 then x else y := by
  unfold Spn.valZ at h
  split at h
  · rw [show Spn.ex 28 0 0 (([x, y, x] : List Int).getD 0 0) (([x, y, x] : List Int).getD 1 0) (([x, y, x] : List Int).getD 2 0) = Spn.ex 28 0 0 x y x from rfl] at h
    rw [show Spn.ex 28 0 0 x y x = (if x = 0 then x else y, 0) from rfl] at h
    generalize (if x = 0 then x else y) = z at *
    simp only [if_true] at h
    split at h
    · cases h; rfl
    · cases h
  · cases h
/-- A choice between two names. -/
theorem means_sel {NM : List Txt} (ha : chkP [] [] (ea.flat 0) (rootOf [] ea) = true) (hb : chkP [] [] (eb.flat 0) (rootOf [] eb) = true) (hg : Gd 0 eb) (h : evE f d v NM (bdL [ea, eb] 0) (nodesOf [ea, eb] selE) (rootOf [ea, eb] selE) = 0) :
    evEx f d v ea = 0 ∧ evEx f d v eb = 0 ∧ evV f d v NM (bdL [ea, eb] 0) (nodesOf [ea, eb] selE) (rootOf [ea, eb] selE) = if evVx f d v ea = 0 then evVx f d v ea else evVx f d v eb := by
  obtain ⟨h1, hF⟩ := evE_zero.1 h
  have hs := shL_flat ea.size eb 0 hg
  rw [Nat.zero_add] at hs
  have hla : (ea.flat 0).length = ea.size := E.flat_len ea 0
  rw [← hla] at hs
  have pa := ea.size_pos
  have pb := eb.size_pos
  have hz : szL [ea, eb] = ea.size + eb.size := by simp [szL]
  have e0 : nodesOf [ea, eb] selE = (ea.flat 0 ++ eb.flat (ea.flat 0).length ++ [lf 4 0 0 0 0 0, lf 4 1 0 0 0 0, lf 4 0 0 0 0 0]) ++ [⟨28, (ea.size + eb.size + 1 : Nat) - 1, (ea.size + eb.size + 1 + 1 : Nat) - 1, (ea.size + eb.size + 1 + 1 + 1 : Nat) - 1, 0, 0, 0, 0, 0⟩] := by
    unfold nodesOf selE
    rw [hz, hla]
    simp [flL, E.flat, E.size]
  have hbd : bdL [ea, eb] 0 = [((ea.size : Nat) : Int) - 1, ((ea.size + eb.size : Nat) : Int) - 1] := by
    simp [bdL]
  have h2 := h1
  rw [e0] at h2
  have h2' := h2
  rw [List.append_assoc] at h2'
  obtain ⟨c1, c2⟩ := two_ck (ra := rootOf [] ea) (rb := rootOf [] eb) ha hb hs h2'
  have za : evEx f d v ea = 0 := evE_zero.2 ⟨c1, hF⟩
  have zb : evEx f d v eb = 0 := evE_zero.2 ⟨c2, hF⟩
  refine ⟨za, zb, ?_⟩
  obtain ⟨x, h3, h4⟩ := last_val (v := v) h2 hF (show (5 : Int) ≤ 28 by decide)
  rw [two_va (f := f) (d := d) (v := v) (BS := bdL [ea, eb] 0) ha hb hs] at h3 h4
  have la : (vaR f d v [] (ea.flat 0) []).length = ea.size := by rw [vaR_len, hla]; simp
  have lb : (vaR f d v [] (eb.flat 0) []).length = eb.size := by rw [vaR_len, E.flat_len]; simp
  rw [evV_e za, evV_e zb]
  obtain ⟨X, hX⟩ : ∃ X, (vaR f d v [] (ea.flat 0) []).getD (ea.size - 1) 0 = X := ⟨_, rfl⟩
  obtain ⟨Y, hY⟩ : ∃ Y, (vaR f d v [] (eb.flat 0) []).getD (eb.size - 1) 0 = Y := ⟨_, rfl⟩
  rw [hX, hY]
  generalize vaR f d v [] (ea.flat 0) [] = VA at *
  generalize vaR f d v [] (eb.flat 0) [] = VB at *
  have hl : (VA ++ VB).length = ea.size + eb.size := by rw [List.length_append, la, lb]
  have gx : (VA ++ VB).getD (ea.size - 1) 0 = X := by rw [getD_l (by omega), hX]
  have gy : (VA ++ VB).getD (ea.size + eb.size - 1) 0 = Y := by rw [show ea.size + eb.size - 1 = ea.size + (eb.size - 1) by omega, getD_r la, hY]
  generalize VA ++ VB = L at *
  have u0 : ∀ R, vaN f d v (bdL [ea, eb] 0) (L ++ R) (lf 4 0 0 0 0 0) = X := fun R => by
    rw [show vaN f d v (bdL [ea, eb] 0) (L ++ R) (lf 4 0 0 0 0 0) = (L ++ R).getD ((bdL [ea, eb] 0).getD 0 0).toNat 0 from rfl, hbd]
    simp only [List.getD_cons_zero]
    rw [show (((ea.size : Nat) : Int) - 1).toNat = ea.size - 1 by omega, getD_l (by omega), gx]
  have u1 : ∀ R, vaN f d v (bdL [ea, eb] 0) (L ++ R) (lf 4 1 0 0 0 0) = Y := fun R => by
    rw [show vaN f d v (bdL [ea, eb] 0) (L ++ R) (lf 4 1 0 0 0 0) = (L ++ R).getD ((bdL [ea, eb] 0).getD 1 0).toNat 0 from rfl, hbd]
    simp only [List.getD_cons_zero, List.getD_cons_succ]
    rw [show (((ea.size + eb.size : Nat) : Int) - 1).toNat = ea.size + eb.size - 1 by omega, getD_l (by omega), gy]
  have hv : vaR f d v (bdL [ea, eb] 0) [lf 4 0 0 0 0 0, lf 4 1 0 0 0 0, lf 4 0 0 0 0 0] L = L ++ [X, Y, X] := by
    simp only [vaR]
    have := u0 []
    rw [List.append_nil] at this
    have h7 := u0 ([X] ++ [Y])
    rw [← List.append_assoc] at h7
    rw [this, u1 [X], h7]
    simp
  rw [hv] at h3 h4
  have hpr : prts ⟨28, (ea.size + eb.size + 1 : Nat) - 1, (ea.size + eb.size + 1 + 1 : Nat) - 1, (ea.size + eb.size + 1 + 1 + 1 : Nat) - 1, 0, 0, 0, 0, 0⟩ = [((ea.size + eb.size + 1 : Nat) : Int) - 1, ((ea.size + eb.size + 1 + 1 : Nat) : Int) - 1, ((ea.size + eb.size + 1 + 1 + 1 : Nat) : Int) - 1] := rfl
  rw [hpr] at h3
  simp only [List.map_cons, List.map_nil] at h3
  rw [show (((ea.size + eb.size + 1 : Nat) : Int) - 1).toNat = (ea.size + eb.size) + 0 by omega, show (((ea.size + eb.size + 1 + 1 : Nat) : Int) - 1).toNat = (ea.size + eb.size) + 1 by omega, show (((ea.size + eb.size + 1 + 1 + 1 : Nat) : Int) - 1).toNat = (ea.size + eb.size) + 2 by omega, getD_r hl, getD_r hl, getD_r hl] at h3
  have hx := val_sel h3
  have e1 : evV f d v NM (bdL [ea, eb] 0) (nodesOf [ea, eb] selE) (rootOf [ea, eb] selE) = (vaR f d v (bdL [ea, eb] 0) (nodesOf [ea, eb] selE) []).getD ((ea.size + eb.size) + 3) 0 := by
    unfold evV
    rw [if_pos h]
    congr 1
    unfold rootOf
    rw [hz, show selE.size = 4 from rfl]
    omega
  rw [e1, e0, h4, List.append_assoc, getD_r hl]
  exact hx
end

/- the texts -/
theorem wd_more {nm : List Txt} {s : Txt} {e : E} (h : wd [] s = some e) : wd nm s = some e := by
  unfold wd at h ⊢
  split at h
  · rename_i h1; rw [if_pos h1]; exact h
  · simp at h
theorem g_more {nm : List Txt} {c : Nat} {l : List Tk} {e : E} (h : G [] c l e) : G nm c l e := by
  induction h with
  | up h1 _ ih => exact G.up h1 ih
  | sel _ _ _ i1 i2 i3 => exact G.sel i1 i2 i3
  | bin h1 _ _ i1 i2 => exact G.bin h1 i1 i2
  | neg _ ih => exact G.neg ih
  | par _ ih => exact G.par ih
  | num v => exact G.num v
  | word h1 h2 h3 h4 => exact G.word h1 h2 h3 (wd_more h4)
  | place h1 h2 => exact G.place h1 h2
  | call1 h1 _ i1 => exact G.call1 h1 i1
  | call2 h1 _ _ i1 i2 => exact G.call2 h1 i1 i2
  | call3 h1 _ _ _ i1 i2 i3 => exact G.call3 h1 i1 i2 i3
def wZZ : Txt := [122, 122]
theorem ak_let2 {t b : Txt} {A B : List Tk} {e : E} (ha : ak t = some A) (hg : G [] 0 A e) (hb : ak b = some B) :
    ak ([108, 101, 116, 32, 122, 122, 61] ++ t ++ 10 :: 59 :: b) = some (.word wLet :: .word wZZ :: .eq :: (A ++ .semi :: B)) := by
  have h1 : ∀ r, ak (108 :: 101 :: 116 :: 32 :: r) = (ak (32 :: r)).map ([.word wLet] ++ ·) := fun r => ak_wrd (x := wLet) (by decide) (32 :: r) (fo_cons (by decide) r)
  have h2 : ∀ r, ak (122 :: 122 :: 61 :: r) = (ak (61 :: r)).map ([.word wZZ] ++ ·) := fun r => ak_wrd (x := wZZ) (by decide) (61 :: r) (fo_cons (by decide) r)
  have h3 : ak (61 :: (t ++ 10 :: 59 :: b)) = (ak (t ++ 10 :: 59 :: b)).map ([.eq] ++ ·) := ak_eq _ (st_of ha hg _)
  have h4 : ak (59 :: b) = some (.semi :: B) := by rw [show ak (59 :: b) = _ from ak_semi b trivial, hb]; rfl
  have h5 := ak_nl t.length t (59 :: b) (Nat.le_refl _)
  rw [ha, h4] at h5
  simp only [Option.bind_some, Option.map_some] at h5
  simp only [List.cons_append, List.nil_append]
  rw [h1, ak_blank (by decide), h2, h3, h5]
  simp
theorem ak_end : ak [122, 63, 122, 122, 58, 122] = some [.word wZ, .ques, .word wZZ, .colon, .word wZ] := by
  have h1 : ∀ r, ak (122 :: 63 :: r) = (ak (63 :: r)).map ([.word wZ] ++ ·) := fun r => ak_wrd (x := wZ) (by decide) (63 :: r) (fo_cons (by decide) r)
  have h2 : ∀ r, ak (122 :: 122 :: 58 :: r) = (ak (58 :: r)).map ([.word wZZ] ++ ·) := fun r => ak_wrd (x := wZZ) (by decide) (58 :: r) (fo_cons (by decide) r)
  rw [h1, show ak (63 :: 122 :: 122 :: 58 :: 122 :: []) = _ from ak_ques _ trivial, h2, show ak (58 :: 122 :: []) = _ from ak_colon _ trivial, ak_z]
  rfl
theorem gp_sel {A B : List Tk} {ea eb : E} (ha : G [] 0 A ea) (hb : G [] 0 B eb) :
    GP [] [] (.word wLet :: .word wZ :: .eq :: (A ++ .semi :: (.word wLet :: .word wZZ :: .eq :: (B ++ .semi :: [.word wZ, .ques, .word wZZ, .colon, .word wZ])))) ([wZ, wZZ], [ea, eb], selE) := by
  refine GP.bind (by decide) rfl ha (GP.bind (by decide) rfl (g_more hb) (GP.last ?_))
  have z8 : G ([] ++ [wZ] ++ [wZZ]) 8 [.word wZ] (.leaf (lf 4 0 0 0 0 0)) := G.word (by decide) (by decide) (by decide) rfl
  have y8 : G ([] ++ [wZ] ++ [wZZ]) 8 [.word wZZ] (.leaf (lf 4 1 0 0 0 0)) := G.word (by decide) (by decide) (by decide) rfl
  exact G.sel (G.ups z8 (by decide) (by decide)) (G.ups y8 (by decide) (by decide)) (G.ups z8 (by decide) (by decide))

end Go.Proofs.YtimdcmponhcngaaGreat
