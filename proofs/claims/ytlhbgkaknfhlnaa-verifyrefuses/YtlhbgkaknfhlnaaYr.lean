/-
  Refusals, plainly: codes with instructions behind them.
-/
import Derived.Test.YtlhbgkaknfhlnaaYh
namespace Go.Proofs.Vfy
open Go.RowKit Go.IntWalk Ytlhbgkaknfhlnaa.Knd
open Cde (In i0 agL arN okI okT mcB coL coZ)
set_option linter.unusedVariables false

theorem in_whole {f d k : Int} (hm : May f d) (h0 : 0 ≤ k) (h5 : k ≤ 5) : Ytlhbgkaknfhlnaa.Spn.whP ((inZ f d k).getD (0, 0)) = true := by
  have hlh : lowZ f d ≤ highZ f d := by
    rcases kind3 f d with ⟨h, rfl⟩ | ⟨h, rfl⟩ | h
    · have := pw_le (d - 1) (by have := h.2.2; omega)
      obtain ⟨a, b, -⟩ := zs0 h
      omega
    · have := pw_le (d - 1) (by have := h.2.2; omega)
      obtain ⟨a, b, -⟩ := zs1 h
      omega
    · exact absurd hm h
  obtain ⟨w1, w2, w3⟩ := kd_bounds f d
  have hc : 1 ≤ colZ f ∧ colZ f ≤ 2000000 := by unfold colZ; split <;> omega
  have hr : 1 ≤ rowZ f ∧ rowZ f ≤ 2000000 := by unfold rowZ; split <;> omega
  unfold Ytlhbgkaknfhlnaa.Spn.whP
  rw [Ytlhbgkaknfhlnaa.Spn.whB_iff]
  unfold w32 at *
  rcases (show k = 0 ∨ k = 1 ∨ k = 2 ∨ k = 3 ∨ k = 4 ∨ k = 5 by omega) with rfl | rfl | rfl | rfl | rfl | rfl
  · rw [show inZ f d 0 = some (0, colZ f - 1) by unfold inZ; rw [if_neg (by simpa using hm)]; rfl]
    simp only [Option.getD_some]; omega
  · rw [show inZ f d 1 = some (0, rowZ f - 1) by unfold inZ; rw [if_neg (by simpa using hm)]; rfl]
    simp only [Option.getD_some]; omega
  · rw [show inZ f d 2 = some (0, 3) by unfold inZ; rw [if_neg (by simpa using hm)]; rfl]
    simp only [Option.getD_some]; omega
  · rw [show inZ f d 3 = some (lowZ f d, lowZ f d) by unfold inZ; rw [if_neg (by simpa using hm)]; rfl]
    simp only [Option.getD_some]; omega
  · rw [show inZ f d 4 = some (highZ f d, highZ f d) by unfold inZ; rw [if_neg (by simpa using hm)]; rfl]
    simp only [Option.getD_some]; omega
  · rw [show inZ f d 5 = some (borderZ f d, borderZ f d) by unfold inZ; rw [if_neg (by simpa using hm)]; rfl]
    simp only [Option.getD_some]; omega
theorem lh_whole {f d : Int} (hm : May f d) : Ytlhbgkaknfhlnaa.Spn.whP (lowZ f d, highZ f d) = true := by
  have h3 := in_whole hm (k := 3) (by omega) (by omega)
  have hlh : lowZ f d ≤ highZ f d := by
    rcases kind3 f d with ⟨h, rfl⟩ | ⟨h, rfl⟩ | h
    · have := pw_le (d - 1) (by have := h.2.2; omega)
      obtain ⟨a, b, -⟩ := zs0 h
      omega
    · have := pw_le (d - 1) (by have := h.2.2; omega)
      obtain ⟨a, b, -⟩ := zs1 h
      omega
    · exact absurd hm h
  obtain ⟨w1, w2, w3⟩ := kd_bounds f d
  unfold Ytlhbgkaknfhlnaa.Spn.whP
  rw [Ytlhbgkaknfhlnaa.Spn.whB_iff]
  unfold w32 at *
  dsimp only
  omega
/-- A register's span is whole. -/
theorem sgI_whole {f d : Int} {S : Sps} {n : In} {i : Nat} (hm : May f d) (ho : okI n i = true) (h : (sgI f d S n).2 = 0) : Ytlhbgkaknfhlnaa.Spn.whP (sgI f d S n).1 = true := by
  have hc := Cde.ok_con ho
  unfold sgI at h ⊢
  by_cases h1 : n.op = 1
  · rw [if_pos h1]
    rw [Cde.csB, if_pos h1, Bool.and_eq_true, Ytlhbgkaknfhlnaa.Spn.wd_iff] at hc
    unfold Ytlhbgkaknfhlnaa.Spn.whP
    rw [Ytlhbgkaknfhlnaa.Spn.whB_iff]
    dsimp only
    omega
  rw [if_neg h1] at h ⊢
  by_cases h2 : n.op = 2
  · rw [if_pos h2]
    rw [Cde.csB, if_neg h1, if_pos h2, Bool.and_eq_true, Ytlhbgkaknfhlnaa.Spn.inB_iff] at hc
    exact in_whole hm hc.1.1 hc.1.2
  rw [if_neg h2] at h ⊢
  by_cases h3 : n.op = 3
  · rw [if_pos h3]; exact lh_whole hm
  rw [if_neg h3] at h ⊢
  exact (Ytlhbgkaknfhlnaa.Spn.ofZ_inv (Prod.ext rfl h : Ytlhbgkaknfhlnaa.Spn.ofZ n.op n.k n.s (asS S n) = ((_, _), 0))).2.2
theorem sgF_whole {f d : Int} {L : List In} (hm : May f d) (hok : okT L L.length = true) : ∀ k, k ≤ L.length → ∀ S, sgF f d (L.take k) = (0, S) → ∀ p ∈ S, Ytlhbgkaknfhlnaa.Spn.whP p = true
  | 0, _, S, h, p, hp => by
    simp [sgF] at h
    subst h
    simp at hp
  | k + 1, hk, S, h, p, hp => by
    rw [Cde.take_snoc i0 (by omega), sgF_snoc] at h
    unfold sgS at h
    split at h
    · rename_i h0
      split at h
      · rename_i h1
        simp only [Prod.mk.injEq, true_and] at h
        subst h
        rcases List.mem_append.1 hp with hp | hp
        · exact sgF_whole hm hok k (by omega) _ (Prod.ext h0 rfl) p hp
        · simp at hp
          subst hp
          exact sgI_whole hm (Cde.okT_at hok (show k < L.length by omega)) h1
      · rename_i h1
        exact absurd (congrArg Prod.fst h) h1
    · rename_i h0
      exact absurd (congrArg Prod.fst h) h0

theorem getI_app {A B : List In} {j : Nat} : (A ++ B).getD (A.length + j) i0 = B.getD j i0 := by
  simp [List.getD_eq_getElem?_getD, List.getElem?_append_right]
theorem getI_pre {A B : List In} {j : Nat} (h : j < A.length) : (A ++ B).getD j i0 = A.getD j i0 := by
  rw [List.getD_eq_getElem?_getD, List.getElem?_append_left h, ← List.getD_eq_getElem?_getD]
theorem okT_app {A B : List In} (h : okT A A.length = true) (hB : ∀ j, j < B.length → okI (B.getD j i0) (A.length + j) = true) : okT (A ++ B) (A ++ B).length = true := by
  simp only [okT, List.all_eq_true, List.mem_range]
  intro i hi
  by_cases hA : i < A.length
  · rw [getI_pre hA]; exact Cde.okT_at h hA
  · obtain ⟨j, rfl⟩ : ∃ j, i = A.length + j := ⟨i - A.length, by omega⟩
    rw [getI_app]
    exact hB j (by simp at hi; omega)
theorem mc_app {f d : Int} {A B : List In} {out : Int} (h : mcB f d A out = true) (hl : A.length + B.length ≤ 200) (hB : ∀ j, j < B.length → okI (B.getD j i0) (A.length + j) = true) : mcB f d (A ++ B) out = true := by
  obtain ⟨h1, h2, h3, h4, h5, h6⟩ := Cde.mc_parts h
  simp only [mcB, Bool.and_eq_true, decide_eq_true_eq, Ytlhbgkaknfhlnaa.Spn.inB_iff, List.length_append]
  exact ⟨⟨⟨h1, by omega⟩, by omega⟩, by have := okT_app h6 hB; rwa [List.length_append] at this⟩

/-- What is put behind: a number, a division or rest, a place; a minus. -/
def nN : In := ⟨1, 0, 0, 0, 0, 0⟩
def nB (op i n : Int) : In := ⟨op, i, n, 0, 0, 0⟩
def nP (c : Int) : In := ⟨3, 0, 0, 0, c, 0⟩
def nM (i : Int) : In := ⟨5, i, 0, 0, 0, 0⟩
theorem rg_no (i : Int) : Cde.rgB 0 false i = true := rfl
theorem rg_yes {r : Int} {i : Nat} (h : 0 ≤ r) (h2 : r < i) : Cde.rgB r true i = true := by
  unfold Cde.rgB
  rw [if_pos rfl, Ytlhbgkaknfhlnaa.Spn.inB_iff]
  omega
theorem ok_N (i : Nat) : okI nN i = true := rfl
theorem ok_B {op i n : Int} {k : Nat} (ho : op = 11 ∨ op = 12) (h0 : 0 ≤ i) (h1 : i < k) (h2 : 0 ≤ n) (h3 : n < k) : okI (nB op i n) k = true := by
  have ha : Ytlhbgkaknfhlnaa.Spn.ar op = 2 := by rcases ho with rfl | rfl <;> decide
  unfold okI Cde.rgs nB
  dsimp only
  rw [ha, show decide ((0 : Int) < 2) = true from rfl, show decide ((1 : Int) < 2) = true from rfl, show decide ((2 : Int) < 2) = false from rfl, rg_yes h0 h1, rg_yes h2 h3, rg_no]
  rcases ho with rfl | rfl <;> rfl
theorem ok_P {c : Int} (i : Nat) (h0 : 0 ≤ c) (h1 : c ≤ 255) : okI (nP c) i = true := by
  unfold okI Cde.rgs nP Cde.csB
  dsimp only
  rw [if_neg (by decide), if_neg (by decide), if_pos rfl, Ytlhbgkaknfhlnaa.Spn.inB_iff.2 ⟨h0, h1⟩]
  rfl
theorem ok_M {i : Int} {k : Nat} (h0 : 0 ≤ i) (h1 : i < k) : okI (nM i) k = true := by
  unfold okI Cde.rgs nM
  dsimp only
  rw [show Ytlhbgkaknfhlnaa.Spn.ar 5 = 1 by decide, show decide ((0 : Int) < 1) = true from rfl, show decide ((1 : Int) < 1) = false from rfl, show decide ((2 : Int) < 1) = false from rfl, rg_yes h0 h1, rg_no]
  rfl
theorem bad_M {i : Int} {k : Nat} (h1 : (k : Int) ≤ i) : okI (nM i) k = false := by
  unfold okI Cde.rgs nM
  dsimp only
  rw [show Ytlhbgkaknfhlnaa.Spn.ar 5 = 1 by decide, show decide ((0 : Int) < 1) = true from rfl, show Cde.rgB i true k = false by
    unfold Cde.rgB; rw [if_pos rfl]
    cases h : Ytlhbgkaknfhlnaa.Spn.inB i 0 ((k : Int) - 1)
    · rfl
    · rw [Ytlhbgkaknfhlnaa.Spn.inB_iff] at h; omega]
  simp
theorem any_app {f d : Int} {A B : List In} : (A ++ B).any (ahI f d) = (A.any (ahI f d) || B.any (ahI f d)) := List.any_append

section
variable {f d : Int} {L : List In} {out i : Int} {N : Nat}
/-- A place that the kind hasn't, behind a division by zero. -/
theorem re_1 (h : vfE f d L out = 0) (hN : L.length = N) (hl : N ≤ 190) (h0 : 0 ≤ i) (h1 : i < N) : vfE f d (L ++ [nN, nB 11 i N, nP (countZ f d)]) out = 11 := by
  obtain ⟨m, ha, -⟩ := vf_parts h
  have hc : 0 ≤ countZ f d ∧ countZ f d ≤ 255 := by unfold countZ; repeat' split <;> omega
  have hm := mc_app (B := [nN, nB 11 i N, nP (countZ f d)]) m (by simp; omega) (fun j hj => by
    simp only [List.length_cons, List.length_nil] at hj
    rcases (show j = 0 ∨ j = 1 ∨ j = 2 by omega) with rfl | rfl | rfl
    · exact ok_N _
    · exact ok_B (.inl rfl) h0 (by omega) (by omega) (by omega)
    · exact ok_P _ hc.1 hc.2)
  have e : myE f d (L ++ [nN, nB 11 i N, nP (countZ f d)]) out = 11 := by
    unfold myE
    rw [if_pos hm, if_pos]
    rw [any_app]
    have : ahI f d (nP (countZ f d)) = true := by unfold ahI nP; simp
    simp [this]
  unfold vfE
  rw [e]
  rfl
theorem of_rest {p : Int × Int} (hp : Ytlhbgkaknfhlnaa.Spn.whP p = true) : (Ytlhbgkaknfhlnaa.Spn.ofZ 12 0 0 [p, (0, 0)]).2 = 12 := by
  have hs : Ytlhbgkaknfhlnaa.Spn.smayB 12 0 0 [p, (0, 0)] = true := by
    unfold Ytlhbgkaknfhlnaa.Spn.smayB
    rw [List.all_cons, hp]
    rfl
  unfold Ytlhbgkaknfhlnaa.Spn.ofZ
  rw [if_pos hs]
  rfl
theorem asS_B {S : Sps} {op : Int} (ho : op = 11 ∨ op = 12) {n : Int} : asS S (nB op i n) = [S.getD i.toNat (0, 0), S.getD n.toNat (0, 0)] := by
  have : arN (nB op i n) = 2 := by unfold arN nB; rcases ho with rfl | rfl <;> rfl
  unfold asS agL
  rw [this]
  rfl
theorem asS_M {S : Sps} : asS S (nM i) = [S.getD i.toNat (0, 0)] := by
  have : arN (nM i) = 1 := rfl
  unfold asS agL
  rw [this]
  rfl
/-- A rest by zero. -/
theorem re_2 (h : vfE f d L out = 0) (hN : L.length = N) (hl : N ≤ 190) (h0 : 0 ≤ i) (h1 : i < N) : vfE f d (L ++ [nN, nB 12 i N]) out = 12 := by
  obtain ⟨m, ha, ⟨S, hS, hSl, -⟩, -⟩ := vf_parts h
  obtain ⟨hmay, -, -, -, -, hok⟩ := Cde.mc_parts m
  have hm := mc_app (B := [nN, nB 12 i N]) m (by simp; omega) (fun j hj => by
    simp only [List.length_cons, List.length_nil] at hj
    rcases (show j = 0 ∨ j = 1 by omega) with rfl | rfl
    · exact ok_N _
    · exact ok_B (.inr rfl) h0 (by omega) (by omega) (by omega))
  have e : myE f d (L ++ [nN, nB 12 i N]) out = 0 := by
    rw [my_zero]
    refine ⟨hm, ?_⟩
    rw [any_app, ha]
    rfl
  have hw := sgF_whole hmay hok L.length (Nat.le_refl _) S (by rw [List.take_length]; exact hS)
  have hi : i.toNat < S.length := by omega
  have hp := hw _ (show S.getD i.toNat (0, 0) ∈ S by rw [List.getD_eq_getElem?_getD, List.getElem?_eq_getElem hi]; exact List.getElem_mem hi)
  have g1 : (S ++ [((0 : Int), (0 : Int))]).getD i.toNat (0, 0) = S.getD i.toNat (0, 0) := getS_pre hi
  have g2 : (S ++ [((0 : Int), (0 : Int))]).getD (N : Int).toNat (0, 0) = (0, 0) := by
    rw [Int.toNat_natCast, ← hN, ← hSl]; simp [List.getD_eq_getElem?_getD]
  have e2 : (sgF f d (L ++ [nN, nB 12 i N])).1 = 12 := by
    rw [sgF_app, hS]
    have s1 : sgS f d (0, S) nN = (0, S ++ [(0, 0)]) := by
      unfold sgS
      rw [if_pos rfl]
      rfl
    have s2 : (sgI f d (S ++ [(0, 0)]) (nB 12 i N)).2 = 12 := by
      show (Ytlhbgkaknfhlnaa.Spn.ofZ 12 0 0 (asS (S ++ [(0, 0)]) (nB 12 i N))).2 = 12
      rw [asS_B (.inr rfl), g1, g2]
      exact of_rest hp
    rw [List.foldl_cons, s1, List.foldl_cons, List.foldl_nil]
    unfold sgS
    rw [if_pos rfl, if_neg (by rw [s2]; decide)]
    exact s2
  unfold vfE
  rw [e, e2]
  rfl
/-- A register that isn't there. -/
theorem re_3 (hN : L.length = N) : vfE f d (L ++ [nM N]) out = 15 := by
  have hm : ¬ mcB f d (L ++ [nM N]) out = true := fun h => by
    have h6 := (Cde.mc_parts h).2.2.2.2.2
    have := Cde.okT_at h6 (k := L.length) (by simp)
    have e : (L ++ [nM N]).getD L.length i0 = nM N := getI_app (j := 0)
    rw [e, bad_M (by omega)] at this
    cases this
  have e : myE f d (L ++ [nM N]) out = 15 := by unfold myE; rw [if_neg hm]
  unfold vfE
  rw [e]
  rfl
theorem of_neg {p : Int × Int} (hp : Ytlhbgkaknfhlnaa.Spn.whP p = true) : (p.1 = -2147483648 → (Ytlhbgkaknfhlnaa.Spn.ofZ 5 0 0 [p]).2 = 13) ∧ (p.1 ≠ -2147483648 → (Ytlhbgkaknfhlnaa.Spn.ofZ 5 0 0 [p]).2 = 0) := by
  have hs : Ytlhbgkaknfhlnaa.Spn.smayB 5 0 0 [p] = true := by
    unfold Ytlhbgkaknfhlnaa.Spn.smayB
    rw [List.all_cons, hp]
    rfl
  have hb := Ytlhbgkaknfhlnaa.Spn.whB_iff.1 hp
  have e : Ytlhbgkaknfhlnaa.Spn.ofZ 5 0 0 [p] = Ytlhbgkaknfhlnaa.Spn.finZ ((-p.2, -p.1), 0) := by
    unfold Ytlhbgkaknfhlnaa.Spn.ofZ
    rw [if_pos hs]
    rfl
  rw [e]
  unfold Ytlhbgkaknfhlnaa.Spn.finZ
  rw [if_neg (by simp)]
  constructor
  · intro h
    rw [if_neg (by rw [Ytlhbgkaknfhlnaa.Spn.whB_iff]; dsimp only; omega)]
  · intro h
    rw [if_pos (by rw [Ytlhbgkaknfhlnaa.Spn.whB_iff]; dsimp only; omega)]
/-- A minus. -/
theorem re_4 (h : vfE f d L out = 0) (hN : L.length = N) (hl : N ≤ 190) (h0 : 0 ≤ i) (h1 : i < N) :
    (((vfS f d L out).getD i.toNat (0, 0)).1 = -2147483648 → vfE f d (L ++ [nM i]) out = 13) ∧ (((vfS f d L out).getD i.toNat (0, 0)).1 ≠ -2147483648 → (coL L < 200 → vfE f d (L ++ [nM i]) out = 0) ∧ (200 ≤ coL L → vfE f d (L ++ [nM i]) out = 14)) := by
  obtain ⟨m, ha, ⟨S, hS, hSl, hvs⟩, hco, -⟩ := vf_parts h
  rw [hvs]
  obtain ⟨hmay, -, -, -, -, hok⟩ := Cde.mc_parts m
  have hm := mc_app (B := [nM i]) m (by simp; omega) (fun j hj => by
    simp only [List.length_cons, List.length_nil] at hj
    obtain rfl : j = 0 := by omega
    exact ok_M h0 (by omega))
  have e : myE f d (L ++ [nM i]) out = 0 := by
    rw [my_zero]
    refine ⟨hm, ?_⟩
    rw [any_app, ha]
    rfl
  have hw := sgF_whole hmay hok L.length (Nat.le_refl _) S (by rw [List.take_length]; exact hS)
  have hi : i.toNat < S.length := by omega
  have hp := hw _ (show S.getD i.toNat (0, 0) ∈ S by rw [List.getD_eq_getElem?_getD, List.getElem?_eq_getElem hi]; exact List.getElem_mem hi)
  obtain ⟨q1, q2⟩ := of_neg hp
  have es : ∀ x, (Ytlhbgkaknfhlnaa.Spn.ofZ 5 0 0 [S.getD i.toNat (0, 0)]).2 = x → (sgF f d (L ++ [nM i])).1 = x := fun x hx => by
    have s2 : (sgI f d S (nM i)).2 = x := by
      show (Ytlhbgkaknfhlnaa.Spn.ofZ 5 0 0 (asS S (nM i))).2 = x
      rw [asS_M]
      exact hx
    rw [sgF_snoc, hS]
    unfold sgS
    rw [if_pos rfl]
    split
    · rename_i h; rw [← s2, h]
    · exact s2
  have hc : coL (L ++ [nM i]) = coL L + 1 := by rw [Cde.coL_snoc]; rfl
  refine ⟨fun hx => ?_, fun hx => ⟨fun hy => ?_, fun hy => ?_⟩⟩
  · unfold vfE
    rw [e, es _ (q1 hx)]
    rfl
  · rw [vf_zero]
    exact ⟨e, es _ (q2 hx), by omega⟩
  · unfold vfE
    rw [e, es _ (q2 hx), if_neg (by simp), if_neg (by simp), if_pos (by omega)]
end

end Go.Proofs.Vfy
