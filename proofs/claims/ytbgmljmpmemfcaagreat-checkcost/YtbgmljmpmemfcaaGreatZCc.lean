/-
  What Check answers of a choice under a name, beside a number, under minuses: plainly.
-/
import Derived.Test.YtbgmljmpmemfcaaGreatZCb
import Derived.Test.YtbgmljmpmemfcaaGreatZCw
namespace Go.Proofs.YtbgmljmpmemfcaaGreat
open Lx Pz
set_option linter.unusedVariables false

theorem mxR_snoc (D : List Int) (x : Int) : mxR (D ++ [x]) = max (mxR D) x := by unfold mxR; rw [List.foldl_append]; rfl
theorem mxR_mem {D : List Int} {x : Int} (h : x ∈ D) : x ≤ mxR D := mem_fold_max D 0 x h
theorem getD_mem {D : List Int} {i : Nat} (h : i < D.length) : D.getD i 0 ∈ D := by
  rw [List.getD_eq_getElem?_getD, List.getElem?_eq_getElem h]; exact List.getElem_mem h
theorem dp_snoc (BS : List Int) (A : List Nd) (n : Nd) (D : List Int) : dpR BS (A ++ [n]) D = dpR BS A D ++ [dpN BS (dpR BS A D) n] := by
  rw [dpR_app]; rfl
/- no use of a name -/
theorem no_use {i : Nat} : ∀ {NS : List Nd} {i : Nat}, Wl [] i NS → ∀ n ∈ NS, n.op ≠ 4
  | [], i, h => by simp
  | n :: NS, i, h => by
    intro m hm
    rcases List.mem_cons.1 hm with rfl | hm
    · intro h4
      have := (h.1.use h4).2.1
      simp at this
    · exact no_use (i := i + 1) h.2 m hm
theorem spR_free {f d : Int} (BS BS' : List Int) : ∀ (NS : List Nd) (S : Sps), (∀ n ∈ NS, n.op ≠ 4) → spR f d BS NS S = spR f d BS' NS S
  | [], S, h => rfl
  | n :: NS, S, h => by
    have e : spN f d BS S n = spN f d BS' S n := by unfold spN; rw [if_neg (h n (by simp)), if_neg (h n (by simp))]
    simp only [spR, e]
    split
    · exact spR_free BS BS' NS _ fun m hm => h m (by simp [hm])
    · rfl
theorem dpR_free (BS BS' : List Int) : ∀ (NS : List Nd) (D : List Int), (∀ n ∈ NS, n.op ≠ 4) → dpR BS NS D = dpR BS' NS D
  | [], D, h => rfl
  | n :: NS, D, h => by
    have e : dpN BS D n = dpN BS' D n := by unfold dpN; rw [if_neg (h n (by simp)), if_neg (h n (by simp))]
    simp only [dpR, e]
    exact dpR_free BS BS' NS _ fun m hm => h m (by simp [hm])
/-- Check's error of two trees, where what it hangs on is the same. -/
theorem ck_eq {f d : Int} {NM NM' : List Txt} {BS BS' : List Int} {NS NS' : List Nd} {root root' : Int} (h1 : chkP NM BS NS root = true) (h2 : chkP NM' BS' NS' root' = true) (h3 : NS.any (ahB f d) = NS'.any (ahB f d)) (h4 : (spR f d BS NS []).2 = (spR f d BS' NS' []).2) (h5 : coR NS = coR NS') (h6 : mxR (dpR BS NS []) = mxR (dpR BS' NS' [])) :
    ckE f d NM BS NS root = ckE f d NM' BS' NS' root' := by
  unfold ckE; rw [h1, h2, h3, h4, h5, h6]
theorem any_app1 {f d : Int} (NS : List Nd) {n : Nd} (h : n.op ≠ 3) : (NS ++ [n]).any (ahB f d) = NS.any (ahB f d) := by
  rw [List.any_append, List.any_cons, List.any_nil]
  have : ahB f d n = false := by unfold ahB; rw [show (n.op == 3) = false by simpa using h]; rfl
  rw [this]; simp

section
variable {f d : Int} {ex : E} {NM : List Txt} {root root' : Int}
abbrev use0 : Nd := lf 4 0 0 0 0 0
abbrev num7 : Nd := lf 1 7 0 0 0 0
theorem nodes_one (ex : E) (n : Nd) : nodesOf [ex] (.leaf n) = ex.flat 0 ++ [n] := by simp [nodesOf, flL, E.flat]
theorem bd_one (ex : E) : bdL [ex] 0 = [(ex.size : Int) - 1] := by simp [bdL]
theorem flat_wl (h : chkP [] [] (ex.flat 0) root = true) : Wl [] 0 (ex.flat 0) := by
  obtain ⟨es, e, hD⟩ := chk_dec.1 h
  exact hD.wl
theorem binds_use (h0 : chkP [] [] (ex.flat 0) root = true) (h1 : chkP NM [(ex.size : Int) - 1] (ex.flat 0 ++ [use0]) root' = true) :
    ckE f d NM [(ex.size : Int) - 1] (ex.flat 0 ++ [use0]) root' = ckE f d [] [] (ex.flat 0) root ∧ coR (ex.flat 0 ++ [use0]) = coR (ex.flat 0) ∧
    mxR (dpR [(ex.size : Int) - 1] (ex.flat 0 ++ [use0]) []) = mxR (dpR [] (ex.flat 0) []) ∧
    ((spR f d [] (ex.flat 0) []).2 = 0 → (spR f d [(ex.size : Int) - 1] (ex.flat 0 ++ [use0]) []).1 = (spR f d [] (ex.flat 0) []).1 ++ [(spR f d [] (ex.flat 0) []).1.getD (ex.size - 1) (0, 0)]) := by
  have hw := flat_wl h0
  have hf := no_use (i := 0) hw
  have hp := ex.size_pos
  have e1 : spR f d [(ex.size : Int) - 1] (ex.flat 0) [] = spR f d [] (ex.flat 0) [] := spR_free _ _ _ _ hf
  have e2 : dpR [(ex.size : Int) - 1] (ex.flat 0) [] = dpR [] (ex.flat 0) [] := dpR_free _ _ _ _ hf
  have hco : coR (ex.flat 0 ++ [use0]) = coR (ex.flat 0) := by rw [coR_snoc]; show coR (ex.flat 0) + 0 = _; omega
  have hlen : (dpR [] (ex.flat 0) []).length = ex.size := by rw [dpR_len, E.flat_len]; simp
  have hidx : (((ex.size : Int) - 1)).toNat = ex.size - 1 := by omega
  have hmx : mxR (dpR [(ex.size : Int) - 1] (ex.flat 0 ++ [use0]) []) = mxR (dpR [] (ex.flat 0) []) := by
    rw [dp_snoc, e2, mxR_snoc]
    have hN : dpN [(ex.size : Int) - 1] (dpR [] (ex.flat 0) []) use0 = (dpR [] (ex.flat 0) []).getD (ex.size - 1) 0 := by
      show (dpR [] (ex.flat 0) []).getD ([(ex.size : Int) - 1].getD (0 : Int).toNat 0).toNat 0 = _
      rw [show [(ex.size : Int) - 1].getD (0 : Int).toNat 0 = (ex.size : Int) - 1 from rfl, hidx]
    rw [hN]
    have := mxR_mem (getD_mem (D := dpR [] (ex.flat 0) []) (i := ex.size - 1) (by omega))
    omega
  have hsp : ∀ T e, spR f d [] (ex.flat 0) [] = (T, e) → spR f d [(ex.size : Int) - 1] (ex.flat 0 ++ [use0]) [] = if e = 0 then (T ++ [T.getD (ex.size - 1) (0, 0)], 0) else ([], e) := by
    intro T e h
    rw [← e1] at h
    by_cases he : e = 0
    · subst he
      rw [spR_snoc h, if_pos rfl]
      have hN : spN f d [(ex.size : Int) - 1] T use0 = (T.getD (ex.size - 1) (0, 0), 0) := by
        show (T.getD ([(ex.size : Int) - 1].getD (0 : Int).toNat 0).toNat (0, 0), (0 : Int)) = _
        rw [show [(ex.size : Int) - 1].getD (0 : Int).toNat 0 = (ex.size : Int) - 1 from rfl, hidx]
      rw [hN, if_pos rfl]
    · rw [spR_bad h he, if_neg he]
  have hs2 := hsp _ _ rfl
  refine ⟨ck_eq h1 h0 (any_app1 _ (by decide)) ?_ hco hmx, hco, hmx, fun h => ?_⟩
  · rw [hs2]
    split
    · rename_i h; exact h.symm
    · rfl
  · rw [hs2, if_pos h]
theorem binds_num (h0 : chkP [] [] (ex.flat 0) root = true) (h1 : chkP NM [(ex.size : Int) - 1] (ex.flat 0 ++ [num7]) root' = true) (hc : ckE f d [] [] (ex.flat 0) root = 0) :
    ckE f d NM [(ex.size : Int) - 1] (ex.flat 0 ++ [num7]) root' = (if coR (ex.flat 0) = 200 then 14 else 0) ∧ coR (ex.flat 0 ++ [num7]) = coR (ex.flat 0) + 1 ∧
    mxR (dpR [(ex.size : Int) - 1] (ex.flat 0 ++ [num7]) []) = mxR (dpR [] (ex.flat 0) []) ∧
    (spR f d [(ex.size : Int) - 1] (ex.flat 0 ++ [num7]) []).1 = (spR f d [] (ex.flat 0) []).1 ++ [(7, 7)] := by
  have hw := flat_wl h0
  have hf := no_use (i := 0) hw
  have hp := ex.size_pos
  obtain ⟨a1, a2, a3, a4, a5, a6⟩ := ck_zero.1 hc
  have e1 : spR f d [(ex.size : Int) - 1] (ex.flat 0) [] = spR f d [] (ex.flat 0) [] := spR_free _ _ _ _ hf
  have e2 : dpR [(ex.size : Int) - 1] (ex.flat 0) [] = dpR [] (ex.flat 0) [] := dpR_free _ _ _ _ hf
  have hco : coR (ex.flat 0 ++ [num7]) = coR (ex.flat 0) + 1 := by rw [coR_snoc]; rfl
  have hlen : (dpR [] (ex.flat 0) []).length = ex.size := by rw [dpR_len, E.flat_len]; simp
  have hdb : Db (dpR [] (ex.flat 0) []) := Db.all (fun x hx => by simp at hx) hw
  have hmx : mxR (dpR [(ex.size : Int) - 1] (ex.flat 0 ++ [num7]) []) = mxR (dpR [] (ex.flat 0) []) := by
    rw [dp_snoc, e2, mxR_snoc]
    have hN : dpN [(ex.size : Int) - 1] (dpR [] (ex.flat 0) []) num7 = 1 := rfl
    rw [hN]
    have h3 := (hdb.at (i := 0) (by omega)).1
    have h2 := mxR_mem (getD_mem (D := dpR [] (ex.flat 0) []) (i := 0) (by omega))
    omega
  have hs : spR f d [(ex.size : Int) - 1] (ex.flat 0 ++ [num7]) [] = ((spR f d [] (ex.flat 0) []).1 ++ [(7, 7)], 0) := by
    have h : spR f d [(ex.size : Int) - 1] (ex.flat 0) [] = ((spR f d [] (ex.flat 0) []).1, 0) := by rw [e1]; exact Prod.ext rfl a4
    rw [spR_snoc h]
    have hN : spN f d [(ex.size : Int) - 1] (spR f d [] (ex.flat 0) []).1 num7 = ((7, 7), 0) := rfl
    rw [hN, if_pos rfl]
  refine ⟨?_, hco, hmx, by rw [hs]⟩
  unfold ckE
  rw [if_neg (by simpa using a1), if_neg (by rw [h1]; simp), any_app1 _ (by decide), if_neg (by rw [a3]; simp), hs, if_neg (by simp), hco, hmx]
  by_cases h2 : coR (ex.flat 0) = 200
  · rw [if_pos h2, if_pos (by omega)]
  · rw [if_neg h2, if_neg (by omega)]
end

/- spans are whole -/
def Vl (S : Sps) : Prop := ∀ p ∈ S, Spn.whP p = true
theorem Vl.at {S : Sps} (h : Vl S) {i : Nat} (hi : i < S.length) : Spn.whP (S.getD i (0, 0)) = true := by
  rw [List.getD_eq_getElem?_getD, List.getElem?_eq_getElem hi]; exact h _ (List.getElem_mem hi)
theorem wh_of {x y : Int} (h : x ≤ y) (h1 : -2147483648 ≤ x) (h2 : y ≤ 2147483647) : Spn.whP (x, y) = true := Spn.whB_iff.2 ⟨h, h1, by omega, by omega, h2⟩
theorem spN_vl {f d : Int} {BS : List Int} {S : Sps} {n : Nd} {p : Int × Int} (hm : Knd.May f d) (hv : Vl S) (hn : Wn BS S.length n) (h : spN f d BS S n = (p, 0)) : Spn.whP p = true := by
  have hw1 := (Knd.pw_le (d - 1) (by have := hm.2.2; omega))
  have hw2 : Knd.pw (d - 1) ≤ 32768 := by
    have h1 := pw_mono (show d - 1 ≤ 15 by have := hm.2.2; omega)
    have h2 : Knd.pw 15 = 32768 := by decide
    omega
  unfold spN at h
  by_cases h4 : n.op = 4
  · rw [if_pos h4] at h
    cases h
    exact hv.at (hn.use h4).2.2.2
  rw [if_neg h4] at h
  by_cases h1 : n.op = 1
  · rw [if_pos h1] at h
    cases h
    have := hn.num h1
    exact wh_of (Int.le_refl _) (by omega) (by omega)
  rw [if_neg h1] at h
  by_cases h2 : n.op = 2
  · rw [if_pos h2] at h
    have e : (Knd.inZ f d n.k).getD (0, 0) = p := congrArg Prod.fst h
    have hk := hn.inp h2
    have c1 : 0 < Knd.colZ f ∧ Knd.colZ f ≤ 1048576 := by unfold Knd.colZ; split <;> omega
    have c2 : 0 < Knd.rowZ f ∧ Knd.rowZ f ≤ 1048576 := by unfold Knd.rowZ; split <;> omega
    have c3 : -32768 ≤ Knd.lowZ f d ∧ Knd.lowZ f d ≤ 65535 ∧ -32768 ≤ Knd.highZ f d ∧ Knd.highZ f d ≤ 65535 ∧ -32768 ≤ Knd.borderZ f d ∧ Knd.borderZ f d ≤ 65535 := by
      rcases hm.1 with rfl | rfl
      · rw [(Knd.zs0 hm).1, (Knd.zs0 hm).2.1, (Knd.zs0 hm).2.2.1]; omega
      · rw [(Knd.zs1 hm).1, (Knd.zs1 hm).2.1, (Knd.zs1 hm).2.2.1]; omega
    unfold Knd.inZ at e
    rw [if_neg (by simpa using hm)] at e
    rw [← e]
    repeat' split
    all_goals first | exact wh_of (by omega) (by omega) (by omega) | (exfalso; omega)
  rw [if_neg h2] at h
  by_cases h5 : n.op = 3
  · rw [if_pos h5] at h
    cases h
    rcases hm.1 with rfl | rfl
    · rw [(Knd.zs0 hm).1, (Knd.zs0 hm).2.1]; exact wh_of (by omega) (by omega) (by omega)
    · rw [(Knd.zs1 hm).1, (Knd.zs1 hm).2.1]; exact wh_of (by omega) (by omega) (by omega)
  rw [if_neg h5] at h
  unfold Spn.ofZ at h
  split at h
  · unfold Spn.finZ at h
    split at h
    · rename_i h1
      exact absurd (congrArg Prod.snd h) h1
    · split at h
      · rename_i h2
        have e : _ = p := congrArg Prod.fst h
        rw [← e]; exact h2
      · cases h
  · cases h
theorem spR_vl {f d : Int} {BS : List Int} (hm : Knd.May f d) : ∀ (NS : List Nd) (S T : Sps), Vl S → Wl BS S.length NS → spR f d BS NS S = (T, 0) → Vl T
  | [], S, T, hv, _, h => by cases h; exact hv
  | n :: NS, S, T, hv, hw, h => by
    unfold spR at h
    obtain ⟨⟨p, e⟩, hp⟩ : ∃ Z, spN f d BS S n = Z := ⟨_, rfl⟩
    rw [hp] at h
    by_cases he : e = 0
    · subst he
      rw [if_pos rfl] at h
      have h1 := spN_vl hm hv hw.1 hp
      refine spR_vl hm NS _ T (fun q hq => ?_) (by simpa using hw.2) h
      rcases List.mem_append.1 hq with hq | hq
      · exact hv q hq
      · simp at hq; rw [hq]; exact h1
    · rw [if_neg he] at h
      exact absurd (congrArg Prod.snd h) he

/- minuses -/
theorem of_neg {lo hi : Int} (h : Spn.whP (lo, hi) = true) : Spn.ofZ 5 0 0 [(lo, hi)] = if lo = -2147483648 then ((0, 0), 13) else ((-hi, -lo), 0) := by
  unfold Spn.ofZ
  have hs : Spn.smayB 5 0 0 [(lo, hi)] = true := by
    simp only [Spn.smayB, List.all_cons, List.all_nil, h, Bool.and_true]
    exact (by decide : (decide ((1 : Int) ≤ Spn.ar 5) && decide (((1 : Nat) : Int) = Spn.ar 5) && Spn.cons 5 0 0) = true)
  have hb := Spn.whB_iff.1 h
  rw [if_pos hs, Spn.rk_one (.inl rfl)]
  show Spn.finZ ((-hi, -lo), 0) = _
  unfold Spn.finZ
  rw [if_neg (by simp)]
  simp only
  by_cases hl : lo = -2147483648
  · rw [if_pos hl, if_neg (fun e => by have := Spn.whB_iff.1 e; omega)]
  · rw [if_neg hl, if_pos (Spn.whB_iff.2 ⟨by omega, by omega, by omega, by omega, by omega⟩)]
theorem negs_size (m : Nat) (e : E) : (negs m e).size = e.size + m := by
  induction m with
  | zero => rfl
  | succ m ih => show (negs m e).size + 1 = _; omega
abbrev ngN (s m : Nat) : Nd := ⟨5, ((s + m : Nat) : Int) - 1, 0, 0, 0, 0, 0, 0, 0⟩
theorem negs_flat (m : Nat) (e : E) : (negs (m + 1) e).flat 0 = (negs m e).flat 0 ++ [ngN e.size m] := by
  show (negs m e).flat 0 ++ [⟨5, ((0 + (negs m e).size : Nat) : Int) - 1, 0, 0, 0, 0, 0, 0, 0⟩] = _
  rw [negs_size, Nat.zero_add]
/-- The span turned so often. -/
def turn (m : Nat) (p : Int × Int) : Int × Int := if m % 2 = 1 then (-p.2, -p.1) else p

section
variable {f d : Int} {ex : E}
theorem negs_co (m : Nat) : coR ((negs m ex).flat 0) = coR (ex.flat 0) + m := by
  induction m with
  | zero => show coR (ex.flat 0) = _; simp
  | succ m ih => rw [negs_flat, coR_snoc, ih]; show coR (ex.flat 0) + m + 1 = _; omega
theorem negs_ah (m : Nat) : ((negs m ex).flat 0).any (ahB f d) = (ex.flat 0).any (ahB f d) := by
  induction m with
  | zero => rfl
  | succ m ih => rw [negs_flat, any_app1 _ (show (5 : Int) ≠ 3 by decide), ih]
theorem negs_mx (m : Nat) : mxR (dpR [] (ex.flat 0) []) ≤ mxR (dpR [] ((negs m ex).flat 0) []) ∧ mxR (dpR [] ((negs m ex).flat 0) []) ≤ mxR (dpR [] (ex.flat 0) []) + m := by
  induction m with
  | zero => exact ⟨Int.le_refl _, by show mxR (dpR [] (ex.flat 0) []) ≤ _; omega⟩
  | succ m ih =>
    have hl : (dpR [] ((negs m ex).flat 0) []).length = ex.size + m := by rw [dpR_len, E.flat_len, negs_size]; simp
    rw [negs_flat, dp_snoc, mxR_snoc]
    have hp := ex.size_pos
    have hN : dpN [] (dpR [] ((negs m ex).flat 0) []) (ngN ex.size m) = max 0 ((dpR [] ((negs m ex).flat 0) []).getD (ex.size + m - 1) 0) + 1 := by
      show ([((ex.size + m : Nat) : Int) - 1].map fun p => (dpR [] ((negs m ex).flat 0) []).getD p.toNat 0).foldl max 0 + 1 = _
      simp only [List.map_cons, List.map_nil, List.foldl_cons, List.foldl_nil]
      rw [show (((ex.size + m : Nat) : Int) - 1).toNat = ex.size + m - 1 by omega]
    have h1 := mxR_mem (getD_mem (D := dpR [] ((negs m ex).flat 0) []) (i := ex.size + m - 1) (by omega))
    have h0 : 0 ≤ mxR (dpR [] ((negs m ex).flat 0) []) := le_fold_max _ _
    rw [hN]
    generalize (dpR [] ((negs m ex).flat 0) []).getD (ex.size + m - 1) 0 = x at *
    omega
theorem negs_bad {T : Sps} {e : Int} (h : spR f d [] (ex.flat 0) [] = (T, e)) (he : e ≠ 0) (m : Nat) : (spR f d [] ((negs m ex).flat 0) []).2 = e := by
  induction m with
  | zero => show (spR f d [] (ex.flat 0) []).2 = e; rw [h]
  | succ m ih =>
    rw [negs_flat, spR_bad (T := (spR f d [] ((negs m ex).flat 0) []).1) (e := e) (Prod.ext rfl ih) he]
theorem negs_step {T : Sps} {m : Nat} {lo hi : Int} (h : spR f d [] ((negs m ex).flat 0) [] = (T, 0)) (hT : T.getD (ex.size + m - 1) (0, 0) = (lo, hi)) (hw : Spn.whP (lo, hi) = true) :
    spR f d [] ((negs (m + 1) ex).flat 0) [] = if lo = -2147483648 then ([], 13) else (T ++ [(-hi, -lo)], 0) := by
  have hp := ex.size_pos
  rw [negs_flat, spR_snoc h]
  have hN : spN f d [] T (ngN ex.size m) = Spn.ofZ 5 0 0 [(lo, hi)] := by
    show Spn.ofZ 5 0 0 ([((ex.size + m : Nat) : Int) - 1].map fun p => T.getD p.toNat (0, 0)) = _
    simp only [List.map_cons, List.map_nil]
    rw [show (((ex.size + m : Nat) : Int) - 1).toNat = ex.size + m - 1 by omega, hT]
  rw [hN, of_neg hw]
  by_cases hl : lo = -2147483648
  · rw [if_pos hl, if_neg (by simp), if_pos hl]
  · rw [if_neg hl, if_pos rfl, if_neg hl]
/-- Where the least number is the least of all: refused under a minus. -/
theorem negs_over {T : Sps} {hi : Int} (h : spR f d [] (ex.flat 0) [] = (T, 0)) (hT : T.getD (ex.size - 1) (0, 0) = (-2147483648, hi)) (hw : Spn.whP (-2147483648, hi) = true) (m : Nat) : (spR f d [] ((negs (m + 1) ex).flat 0) []).2 = 13 := by
  induction m with
  | zero =>
    have := negs_step (m := 0) (ex := ex) h hT hw
    rw [this, if_pos rfl]
  | succ m ih => rw [negs_flat, spR_bad (T := (spR f d [] ((negs (m + 1) ex).flat 0) []).1) (e := 13) (Prod.ext rfl ih) (by decide)]
/-- Else it is turned as often. -/
theorem negs_turn {T : Sps} {lo hi : Int} (h : spR f d [] (ex.flat 0) [] = (T, 0)) (hT : T.getD (ex.size - 1) (0, 0) = (lo, hi)) (hw : Spn.whP (lo, hi) = true) (hl : lo ≠ -2147483648) (m : Nat) :
    ∃ Tm, spR f d [] ((negs m ex).flat 0) [] = (Tm, 0) ∧ Tm.length = ex.size + m ∧ Tm.getD (ex.size + m - 1) (0, 0) = turn m (lo, hi) := by
  have hb := Spn.whB_iff.1 hw
  have hp := ex.size_pos
  induction m with
  | zero =>
    have := spR_len h
    rw [E.flat_len] at this
    exact ⟨T, h, by simpa using this, hT⟩
  | succ m ih =>
    obtain ⟨Tm, h1, h2, h3⟩ := ih
    obtain ⟨⟨x, y⟩, hxy⟩ : ∃ p, turn m (lo, hi) = p := ⟨_, rfl⟩
    have hx : (x = lo ∧ y = hi ∧ m % 2 = 0) ∨ (x = -hi ∧ y = -lo ∧ m % 2 = 1) := by
      unfold turn at hxy
      split at hxy
      · rename_i h; cases hxy; exact .inr ⟨rfl, rfl, h⟩
      · rename_i h; cases hxy; exact .inl ⟨rfl, rfl, by omega⟩
    have hs := negs_step h1 (h3.trans hxy) (wh_of (by omega) (by omega) (by omega))
    rw [if_neg (by omega)] at hs
    refine ⟨_, hs, by simp [h2]; omega, ?_⟩
    rw [List.getD_eq_getElem?_getD, List.getElem?_append_right (by omega), show ex.size + (m + 1) - 1 - Tm.length = 0 by omega]
    show (-y, -x) = turn (m + 1) (lo, hi)
    unfold turn
    rcases hx with ⟨rfl, rfl, hm⟩ | ⟨rfl, rfl, hm⟩
    · rw [if_pos (by omega)]
    · rw [if_neg (by omega)]; simp
end

end Go.Proofs.YtbgmljmpmemfcaaGreat
