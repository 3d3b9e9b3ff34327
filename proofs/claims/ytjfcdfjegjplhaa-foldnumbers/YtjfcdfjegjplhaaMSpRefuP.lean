/-
  Arguments of one number each are refused just as the operator refuses them: on whole numbers.
-/
import Derived.Test.YtjfcdfjegjplhaaMSpH
namespace Go.Proofs.Ytjfcdfjegjplhaa.Spn
open Go.RowKit Go.IntWalk
set_option linter.unusedVariables false

def ptsOf (L : List (Int × Int)) : List (Int × Int) := L.map fun p => (p.1, p.1)

theorem whB_self (v : Int) : whB v v = wd v := by
  unfold whB
  cases wd v <;> simp
theorem fsts_pts (L : List (Int × Int)) : fsts (ptsOf L) = fsts L ∧ snds (ptsOf L) = fsts L := by simp [fsts, snds, ptsOf]

theorem smay_pts (op k s : Int) (L : List (Int × Int)) : smayB op k s (ptsOf L) = mayB op k s (fsts L) := by
  have h : (ptsOf L).all whP = (fsts L).all wd := by
    unfold ptsOf fsts
    rw [List.all_map, List.all_map]
    congr 1
    funext p
    exact whB_self p.1
  unfold smayB mayB
  rw [h]
  simp [ptsOf, fsts]

theorem finZ_self (v : Int) : (finZ ((v, v), 0)).2 = if wd v = true then 0 else 13 := by
  unfold finZ
  simp only [whB_self]
  cases wd v <;> simp
theorem fnE_e (v : Int) : (fnE (v, 0)).2 = if wd v = true then 0 else 13 := by
  unfold fnE
  simp only [if_true]
  cases wd v <;> simp
theorem finZ_wh {x y : Int} (h : whB x y = true) : (finZ ((x, y), 0)).2 = 0 := by simp [finZ, h]
theorem finZ_e {Z : Int × Int} {e : Int} (h : e ≠ 0) : (finZ (Z, e)).2 = e := by simp [finZ, h]

theorem val_pair (op k s : Int) (xs : List Int) : (valZ op k s xs).2 ≠ 0 ∨ ∃ v, valZ op k s xs = (v, 0) ∧ wd v = true := by
  unfold valZ
  split
  · split
    · split
      · rename_i h; exact .inr ⟨_, rfl, h⟩
      · exact .inl (by simp)
    · rename_i h; exact .inl h
  · exact .inl (by simp)

theorem corn_self {f : Int → Int → Int × Int} {x y : Int} (h : (f x y).2 ≠ 0 ∨ ∃ v, f x y = (v, 0) ∧ wd v = true) : (finZ (cornZ f x x y y)).2 = (f x y).2 := by
  rcases h with h | ⟨v, h, hv⟩
  · have e : cornZ f x x y y = ((0, 0), (f x y).2) := by
      have e0 : cv f x x y y 0 = f x y := rfl
      unfold cornZ
      rw [e0, if_pos h]
    rw [e, finZ_e h]
  · have hw := wd_iff.1 hv
    rw [cornZ_mk (by rw [h]) (by rw [h]) (by rw [h]) (by rw [h]), h]
    simp only
    rw [show min (min (min (min 9223372036854775807 v) v) v) v = v by omega, show max (max (max (max (-9223372036854775808) v) v) v) v = v by omega, finZ_self, if_pos hv]

theorem ends_self {f : List Int → Int × Int} {L : List (Int × Int)} (h : (f (fsts L)).2 ≠ 0 ∨ ∃ v, f (fsts L) = (v, 0) ∧ wd v = true) : (finZ (endsZ f (ptsOf L))).2 = (f (fsts L)).2 := by
  obtain ⟨e1, e2⟩ := fsts_pts L
  unfold endsZ
  rw [e1, e2]
  rcases h with h | ⟨v, h, hv⟩
  · rw [if_pos h, finZ_e h]
  · rw [h, if_neg (by simp)]
    rw [finZ_self, if_pos hv]

theorem both_wh {a b c d : Int} (hw : whB a b = true) (hw' : whB c d = true) : whB (bothZ a b c d).1 (bothZ a b c d).2 = true := by
  obtain ⟨hab, A1, A2, B1, B2⟩ := whB_iff.1 hw
  obtain ⟨hcd, C1, C2, D1, D2⟩ := whB_iff.1 hw'
  have hb := arP_bd (a := a) (b := b) (c := c) (d := d) ⟨A1, A2⟩ ⟨B1, B2⟩ ⟨C1, C2⟩ ⟨D1, D2⟩
  rw [whB_iff]
  unfold bothZ
  generalize arP a b c d = P at *
  split
  · simp only; omega
  · split
    · simp only; omega
    · split <;> simp only <;> omega
theorem eith_wh {op a b c d : Int} (hw : whB a b = true) (hw' : whB c d = true) : whB (eithZ op a b c d).1 (eithZ op a b c d).2 = true := by
  obtain ⟨hab, A1, A2, B1, B2⟩ := whB_iff.1 hw
  obtain ⟨hcd, C1, C2, D1, D2⟩ := whB_iff.1 hw'
  have hb := arP_bd (a := a) (b := b) (c := c) (d := d) ⟨A1, A2⟩ ⟨B1, B2⟩ ⟨C1, C2⟩ ⟨D1, D2⟩
  have hP := arP_has (a := a) (b := b) (c := c) (d := d) ⟨A1, A2⟩ ⟨B1, B2⟩ ⟨C1, C2⟩ ⟨D1, D2⟩
  rw [whB_iff]
  unfold eithZ
  generalize arP a b c d = P at *
  split
  · simp only; omega
  · split <;> simp only <;> omega
theorem eq_wh (a b c d : Int) : whB (eqZ a b c d).1 (eqZ a b c d).2 = true ∧ whB (1 - (eqZ a b c d).2) (1 - (eqZ a b c d).1) = true := by
  unfold eqZ
  split
  · decide
  · split <;> decide

theorem left_wh {x y : Int} (hx : W32 x) (hy : W32 y) (h0 : y ≠ 0) : whB (leftZ x x y y).1 (leftZ x x y y).2 = true := by
  rw [whB_iff]
  unfold leftZ
  simp only
  by_cases p : x < 0 <;> by_cases q : 0 < x <;> simp only [p, q, if_true, if_false] <;> omega
theorem sel_wh {x y z : Int} (hx : W32 x) (hy : W32 y) (hz : W32 z) : whB (selZ x x y y z z).1 (selZ x x y y z z).2 = true := by
  rw [whB_iff]
  unfold selZ
  split
  · split <;> simp only <;> omega
  · simp only; omega

theorem refu_1 {op k s x : Int} (ho : ar op = 1) (hc : cons op k s = true) (hx : W32 x) : (finZ (reckZ op k s [(x, x)])).2 = (valZ op k s [x]).2 := by
  have hwx : whB x x = true := by rw [whB_self]; exact wd_iff.2 hx
  rcases one_cases ho with rfl | rfl | rfl | rfl | rfl | rfl | rfl | rfl
  · rw [rk_one (.inl rfl), val1 rfl hc hx]
    show (finZ ((-x, -x), 0)).2 = (fnE (-x, 0)).2
    rw [finZ_self, fnE_e]
  · rw [rk_one (.inr rfl), val1 rfl hc hx]
    show (finZ (oneZ 6 x x, 0)).2 = (fnE (max x (-x), 0)).2
    rw [show oneZ 6 x x = (max x (-x), max x (-x)) by
      unfold oneZ
      rw [if_neg (by decide)]
      by_cases p : 0 ≤ x
      · rw [if_pos p, show max x (-x) = x by omega]
      · rw [if_neg p, if_pos (by omega), show max x (-x) = -x by omega], finZ_self, fnE_e]
  · rw [rk_ends (by simp)]
    exact ends_self (L := [(x, x)]) (val_pair 7 k s [x])
  · rw [rk_ends (by simp)]
    exact ends_self (L := [(x, x)]) (val_pair 29 k s [x])
  · rw [rk_ends (by simp)]
    exact ends_self (L := [(x, x)]) (val_pair 30 k s [x])
  · have hk : inB k 0 2147483647 = true := hc
    have hk' := inB_iff.1 hk
    rw [rk_andk rfl, val1 rfl hc hx]
    rw [finZ_wh (both_wh hwx (whB_iff.2 (by omega)))]
    have hb := bw_wd .and (a := x) (b := k) hx (by omega)
    show 0 = (fnE (bw .and x k, 0)).2
    rw [fnE_e, if_pos (wd_iff.2 hb)]
  · have hk : wd k = true := hc
    have hk' := wd_iff.1 hk
    rw [rk_mulk rfl, val1 rfl hc hx, corn_self (val_pair 10 0 0 [x, k])]
    rw [val2 rfl rfl hx ⟨hk'.1, hk'.2⟩]
    rfl
  · rw [rk_ends (by simp)]
    exact ends_self (L := [(x, x)]) (val_pair 33 k s [x])

theorem refu_2 {op k s x y : Int} (ho : ar op = 2) (hc : cons op k s = true) (hx : W32 x) (hy : W32 y) : (finZ (reckZ op k s [(x, x), (y, y)])).2 = (valZ op k s [x, y]).2 := by
  have hwx : whB x x = true := by rw [whB_self]; exact wd_iff.2 hx
  have hwy : whB y y = true := by rw [whB_self]; exact wd_iff.2 hy
  rcases two_ways ho with hop | hop | hop | hop
  · rw [rk_div hop]
    unfold divZ
    by_cases h0 : y = 0
    · subst h0
      rw [if_pos (hasB_iff.2 (by omega)), finZ_e (by decide), val2 ho hc hx hy]
      rcases hop with rfl | rfl <;> rfl
    · have hz : hasB y y 0 = false := by
        cases hh : hasB y y 0
        · rfl
        · have := hasB_iff.1 hh; omega
      rw [hz]
      simp only [Bool.false_eq_true, if_false]
      rcases hop with rfl | rfl
      · rw [if_pos rfl]
        exact corn_self (val_pair 11 k s [x, y])
      · rw [if_neg (by decide), val2 ho hc hx hy]
        have he : ex 12 k s x y 0 = (x.tmod y, 0) := by simp [ex, h0]
        have hf := tmod_facts x y h0
        rw [he, fnE_e, if_pos (wd_iff.2 (by omega))]
        exact finZ_wh (left_wh hx hy h0)
  · rw [rk_corn hop]
    exact corn_self (val_pair op k s [x, y])
  · rw [rk_ends (by omega)]
    exact ends_self (L := [(x, x), (y, y)]) (val_pair op k s [x, y])
  · rw [rk_two hop, val2 ho hc hx hy]
    rcases hop with rfl | rfl | rfl | rfl | rfl | rfl | rfl
    · show (finZ ((x + y, x + y), 0)).2 = (fnE (x + y, 0)).2
      rw [finZ_self, fnE_e]
    · show (finZ ((x - y, x - y), 0)).2 = (fnE (x - y, 0)).2
      rw [finZ_self, fnE_e]
    · show (finZ (bothZ x x y y, 0)).2 = (fnE (bw .and x y, 0)).2
      rw [finZ_wh (both_wh hwx hwy), fnE_e, if_pos (wd_iff.2 (bw_wd .and hx hy))]
    · show (finZ (eithZ 16 x x y y, 0)).2 = (fnE (bw .or x y, 0)).2
      rw [finZ_wh (eith_wh hwx hwy), fnE_e, if_pos (wd_iff.2 (bw_wd .or hx hy))]
    · show (finZ (eithZ 17 x x y y, 0)).2 = (fnE (bw .xor x y, 0)).2
      rw [finZ_wh (eith_wh hwx hwy), fnE_e, if_pos (wd_iff.2 (bw_wd .xor hx hy))]
    · show (finZ (eqZ x x y y, 0)).2 = (fnE (tr (x == y), 0)).2
      have t := trb x y
      rw [finZ_wh (eq_wh x x y y).1, fnE_e, if_pos (wd_iff.2 (by omega))]
    · show (finZ ((1 - (eqZ x x y y).2, 1 - (eqZ x x y y).1), 0)).2 = (fnE (tr (x != y), 0)).2
      have t := trb x y
      rw [finZ_wh (eq_wh x x y y).2, fnE_e, if_pos (wd_iff.2 (by omega))]

theorem refu_3 {op k s x y z : Int} (ho : ar op = 3) (hc : cons op k s = true) (hx : W32 x) (hy : W32 y) (hz : W32 z) : (finZ (reckZ op k s [(x, x), (y, y), (z, z)])).2 = (valZ op k s [x, y, z]).2 := by
  have h := inB_iff.1 (three_cases ho)
  rcases (show op = 26 ∨ op = 27 ∨ op = 28 by omega) with rfl | rfl | rfl
  · rw [rk_ends (by simp)]
    exact ends_self (L := [(x, x), (y, y), (z, z)]) (val_pair 26 k s [x, y, z])
  · rw [rk_ends (by simp)]
    exact ends_self (L := [(x, x), (y, y), (z, z)]) (val_pair 27 k s [x, y, z])
  · rw [rk_three rfl, val3 ho hc hx hy hz]
    show (finZ (selZ x x y y z z, 0)).2 = (fnE (if x = 0 then z else y, 0)).2
    rw [fnE_e, if_pos (wd_iff.2 (by split <;> omega))]
    exact finZ_wh (sel_wh hx hy hz)

theorem pts_ins : ∀ L : List (Int × Int), Ins (fsts L) (ptsOf L)
  | [] => trivial
  | p :: L => ⟨⟨Int.le_refl _, Int.le_refl _⟩, pts_ins L⟩

/-- Points: the same refusal, and else the answer lies in the span. -/
theorem refu_all (op k s : Int) (L : List (Int × Int)) : (ofZ op k s (ptsOf L)).2 = (valZ op k s (fsts L)).2 ∧ ((valZ op k s (fsts L)).2 = 0 → hasB (ofZ op k s (ptsOf L)).1.1 (ofZ op k s (ptsOf L)).1.2 (valZ op k s (fsts L)).1 = true) := by
  have key : (ofZ op k s (ptsOf L)).2 = (valZ op k s (fsts L)).2 := by
    unfold ofZ
    rw [smay_pts]
    by_cases hm : mayB op k s (fsts L) = true
    · rw [if_pos hm]
      have hm' := hm
      simp only [mayB, Bool.and_eq_true, decide_eq_true_eq, List.all_eq_true] at hm
      obtain ⟨⟨⟨m1, m2⟩, m3⟩, m4⟩ := hm
      have h3 := ar_le op
      match L, m2, m4 with
      | [(x, _)], m2, m4 => exact refu_1 (by simpa [fsts] using m2.symm) m3 (wd_iff.1 (m4 x (by simp [fsts])))
      | [(x, _), (y, _)], m2, m4 => exact refu_2 (by simpa [fsts] using m2.symm) m3 (wd_iff.1 (m4 x (by simp [fsts]))) (wd_iff.1 (m4 y (by simp [fsts])))
      | [(x, _), (y, _), (z, _)], m2, m4 => exact refu_3 (by simpa [fsts] using m2.symm) m3 (wd_iff.1 (m4 x (by simp [fsts]))) (wd_iff.1 (m4 y (by simp [fsts]))) (wd_iff.1 (m4 z (by simp [fsts])))
      | [], m2, m4 => simp [fsts] at m2; omega
      | _ :: _ :: _ :: _ :: _, m2, m4 => simp [fsts] at m2; omega
    · rw [if_neg hm]
      unfold valZ
      rw [if_neg hm]
  refine ⟨key, fun h0 => ?_⟩
  obtain ⟨⟨⟨lo, hi⟩, e⟩, hZ⟩ : ∃ Z, ofZ op k s (ptsOf L) = Z := ⟨_, rfl⟩
  rw [hZ] at key ⊢
  have he : e = 0 := by simpa [h0] using key
  subst he
  obtain ⟨v, h1, h2, h3⟩ := holds_all hZ (pts_ins L)
  rw [h1]
  exact hasB_iff.2 ⟨h2, h3⟩

theorem ex_err {op k s a b c : Int} (h : (ex op k s a b c).2 = 12) : (op = 11 ∨ op = 12) ∧ b = 0 := by
  by_cases h11 : op = 11
  · subst h11
    by_cases hb : b = 0
    · exact ⟨.inl rfl, hb⟩
    · simp [ex, hb] at h
  by_cases h12 : op = 12
  · subst h12
    by_cases hb : b = 0
    · exact ⟨.inr rfl, hb⟩
    · simp [ex, hb] at h
  exfalso
  unfold ex at h
  simp only [h11, h12, if_false, apply_ite Prod.snd] at h
  repeat' split at h
  all_goals omega

theorem val_err {op k s : Int} {xs : List Int} (h : (valZ op k s xs).2 = 12) : (op = 11 ∨ op = 12) ∧ xs.getD 1 0 = 0 := by
  unfold valZ at h
  split at h
  · split at h
    · split at h <;> simp at h
    · exact ex_err h
  · simp at h

theorem ends_e {f : List Int → Int × Int} {L : List (Int × Int)} (h : (endsZ f L).2 = 12) : (f (fsts L)).2 = 12 ∨ (f (snds L)).2 = 12 := by
  unfold endsZ at h
  split at h
  · exact .inl h
  · exact .inr h
theorem corn_e {f : Int → Int → Int × Int} {a b c d : Int} (h : (cornZ f a b c d).2 = 12) : (f a c).2 = 12 ∨ (f a d).2 = 12 ∨ (f b c).2 = 12 ∨ (f b d).2 = 12 := by
  have e0 : cv f a b c d 0 = f a c := rfl
  have e1 : cv f a b c d 1 = f a d := rfl
  have e2 : cv f a b c d 2 = f b c := rfl
  have e3 : cv f a b c d 3 = f b d := rfl
  unfold cornZ at h
  rw [e0, e1, e2, e3] at h
  split at h
  · exact .inl h
  · split at h
    · exact .inr (.inl h)
    · split at h
      · exact .inr (.inr (.inl h))
      · split at h
        · exact .inr (.inr (.inr h))
        · simp at h

/-- A span that is refused as dividing by zero has a zero among the divisors. -/
theorem zero_all {op k s : Int} {L : List (Int × Int)} {Z : Int × Int} (h : ofZ op k s L = (Z, 12)) : Z = (0, 0) ∧ ∃ a b c d, L = [(a, b), (c, d)] ∧ c ≤ 0 ∧ 0 ≤ d ∧ (op = 11 ∨ op = 12) := by
  refine ⟨ofZ_err h (by decide), ?_⟩
  unfold ofZ at h
  by_cases hm : smayB op k s L = true
  · rw [if_pos hm] at h
    obtain ⟨m2, m1, m3, m4, m5⟩ := smay_inv hm
    have hr : (reckZ op k s L).2 = 12 := by
      have h2 : (finZ (reckZ op k s L)).2 = 12 := by rw [h]
      unfold finZ at h2
      split at h2
      · exact h2
      · split at h2 <;> simp at h2
    by_cases he : op = 7 ∨ op = 24 ∨ op = 25 ∨ op = 26 ∨ op = 27 ∨ op = 29 ∨ op = 30 ∨ op = 33
    · rw [rk_ends he] at hr
      rcases ends_e hr with h1 | h1
      · have := val_err h1; omega
      · have := val_err h1; omega
    match L, m2, hr with
    | [(a, b)], m2, hr =>
      have ho := one_cases (op := op) (by simpa using m2.symm)
      by_cases h32 : op = 32
      · rw [rk_mulk h32] at hr
        rcases corn_e hr with h1 | h1 | h1 | h1 <;> (have := val_err h1; omega)
      by_cases h31 : op = 31
      · rw [rk_andk h31] at hr
        simp at hr
      rw [rk_one (by omega)] at hr
      simp at hr
    | [(a, b), (c, d)], m2, hr =>
      have har : ar op = 2 := by simpa using m2.symm
      rcases two_ways har with hop | hop | hop | hop
      · rw [rk_div hop] at hr
        unfold divZ at hr
        by_cases h0 : hasB c d 0 = true
        · have hh := hasB_iff.1 h0
          exact ⟨a, b, c, d, rfl, hh.1, hh.2, hop⟩
        · rw [if_neg h0] at hr
          have hz : ¬ (c ≤ 0 ∧ 0 ≤ d) := fun hh => h0 (hasB_iff.2 hh)
          have w2 := whB_iff.1 (m4 (c, d) (by simp))
          split at hr
          · rcases corn_e hr with h1 | h1 | h1 | h1
            · have := (val_err h1).2; simp at this; simp only at w2; omega
            · have := (val_err h1).2; simp at this; simp only at w2; omega
            · have := (val_err h1).2; simp at this; simp only at w2; omega
            · have := (val_err h1).2; simp at this; simp only at w2; omega
          · simp at hr
      · rw [rk_corn hop] at hr
        rcases corn_e hr with h1 | h1 | h1 | h1 <;> (have := val_err h1; omega)
      · exact absurd (show _ from by omega) he
      · rw [rk_two hop] at hr
        simp at hr
    | [(a, b), (c, d), (e, f)], m2, hr =>
      have h3' := inB_iff.1 (three_cases (op := op) (by simpa using m2.symm))
      rw [rk_three (by omega)] at hr
      simp at hr
    | [], m2, hr => simp at m2; omega
    | _ :: _ :: _ :: _ :: _, m2, hr => simp at m5
  · rw [if_neg hm] at h
    simp at h

end Go.Proofs.Ytjfcdfjegjplhaa.Spn
