/-
  Narrower arguments have an answer too, and it lies within: on whole numbers.
-/
import Derived.Test.YtlhbgkaknfhlnaaGreatZSpH
namespace Go.Proofs.YtlhbgkaknfhlnaaGreat.Spn
open Go.RowKit Go.IntWalk
set_option linter.unusedVariables false

/-- The spans of the first list lie in those of the second. -/
def Sub : List (Int × Int) → List (Int × Int) → Prop
  | [], [] => True
  | q :: L', p :: L => (p.1 ≤ q.1 ∧ q.1 ≤ q.2 ∧ q.2 ≤ p.2) ∧ Sub L' L
  | _, _ => False

def Within (Z : (Int × Int) × Int) (lo hi : Int) : Prop := ∃ lo' hi', Z = ((lo', hi'), 0) ∧ lo ≤ lo' ∧ lo' ≤ hi' ∧ hi' ≤ hi

theorem grow_corn {f : Int → Int → Int × Int} {a b c d lo hi a' b' c' d' : Int} (hlo : -9223372036854775808 ≤ lo ∧ lo ≤ 9223372036854775807) (hhi : -9223372036854775808 ≤ hi ∧ hi ≤ 9223372036854775807)
    (H : ∀ x y, a ≤ x → x ≤ b → c ≤ y → y ≤ d → ∃ v, f x y = (v, 0) ∧ lo ≤ v ∧ v ≤ hi) (h1 : a ≤ a') (h2 : a' ≤ b') (h3 : b' ≤ b) (h4 : c ≤ c') (h5 : c' ≤ d') (h6 : d' ≤ d) : Within (cornZ f a' b' c' d') lo hi := by
  obtain ⟨v1, e1, l1, u1⟩ := H a' c' h1 (by omega) h4 (by omega)
  obtain ⟨v2, e2, l2, u2⟩ := H a' d' h1 (by omega) (by omega) h6
  obtain ⟨v3, e3, l3, u3⟩ := H b' c' (by omega) h3 h4 (by omega)
  obtain ⟨v4, e4, l4, u4⟩ := H b' d' (by omega) h3 (by omega) h6
  refine ⟨_, _, cornZ_mk (by rw [e1]) (by rw [e2]) (by rw [e3]) (by rw [e4]), ?_⟩
  rw [e1, e2, e3, e4]
  simp only
  omega

theorem val_of {op k s lo hi : Int} {L : List (Int × Int)} {xs : List Int} (hm : smayB op k s L = true) (hr : reckZ op k s L = ((lo, hi), 0)) (hw : whB lo hi = true) (h : Ins xs L) : ∃ v, valZ op k s xs = (v, 0) ∧ lo ≤ v ∧ v ≤ hi := by
  obtain ⟨h1, h2, h3, h4⟩ := holds_ex hm hr h
  have g := whB_iff.1 hw
  refine ⟨_, ?_, h3, h4⟩
  rw [val_fnE h1]
  exact fnE_mk h2 (wd_iff.2 (by omega))

theorem sub_ins : ∀ {L' L : List (Int × Int)}, Sub L' L → Ins (fsts L') L ∧ Ins (snds L') L ∧ Ins (fsts L') L'
  | [], [], _ => ⟨trivial, trivial, trivial⟩
  | q :: L', p :: L, h => by
    obtain ⟨⟨h1, h2, h3⟩, ht⟩ := h
    obtain ⟨i1, i2, i3⟩ := sub_ins ht
    exact ⟨⟨⟨h1, Int.le_trans h2 h3⟩, i1⟩, ⟨⟨Int.le_trans h1 h2, h3⟩, i2⟩, ⟨⟨Int.le_refl _, h2⟩, i3⟩⟩
  | [], _ :: _, h => h.elim
  | _ :: _, [], h => h.elim
theorem sub_len : ∀ {L' L : List (Int × Int)}, Sub L' L → L'.length = L.length
  | [], [], _ => rfl
  | _ :: _, _ :: _, h => by simp [sub_len h.2]
  | [], _ :: _, h => h.elim
  | _ :: _, [], h => h.elim
theorem sub_wh : ∀ {L' L : List (Int × Int)}, Sub L' L → (∀ p ∈ L, whB p.1 p.2 = true) → ∀ q ∈ L', whB q.1 q.2 = true
  | [], [], _, _, q, hq => by simp at hq
  | q0 :: L', p :: L, h, hp, q, hq => by
    obtain ⟨⟨h1, h2, h3⟩, ht⟩ := h
    rcases List.mem_cons.1 hq with rfl | hq
    · have := whB_iff.1 (hp p (by simp))
      exact whB_iff.2 (by omega)
    · exact sub_wh ht (fun r hr => hp r (by simp [hr])) q hq
  | [], _ :: _, h, _, _, _ => h.elim
  | _ :: _, [], h, _, _, _ => h.elim
theorem sub_may {op k s : Int} {L' L : List (Int × Int)} (h : Sub L' L) (hm : smayB op k s L = true) : smayB op k s L' = true := by
  obtain ⟨m2, m1, m3, m4, m5⟩ := smay_inv hm
  simp only [smayB, Bool.and_eq_true, decide_eq_true_eq, List.all_eq_true]
  exact ⟨⟨⟨m1, by rw [sub_len h]; exact m2⟩, m3⟩, fun q hq => sub_wh h m4 q hq⟩

theorem grow_ends {op k s lo hi : Int} {L' L : List (Int × Int)} (hop : op = 7 ∨ op = 24 ∨ op = 25 ∨ op = 26 ∨ op = 27 ∨ op = 29 ∨ op = 30 ∨ op = 33) (hm : smayB op k s L = true) (hr : reckZ op k s L = ((lo, hi), 0)) (hw : whB lo hi = true) (hs : Sub L' L) :
    Within (reckZ op k s L') lo hi := by
  obtain ⟨i1, i2, i3⟩ := sub_ins hs
  obtain ⟨v1, e1, l1, u1⟩ := val_of hm hr hw i1
  obtain ⟨v2, e2, l2, u2⟩ := val_of hm hr hw i2
  have e : reckZ op k s L' = ((v1, v2), 0) := by
    rw [rk_ends hop, endsZ_mk (by rw [e1]) (by rw [e2]), e1, e2]
  have h3 := holds_ex (sub_may hs hm) e i3
  have h4 := val_fnE h3.1
  rw [e1] at h4
  have h5 := fnE_ok (E := ex op k s ((fsts L').getD 0 0) ((fsts L').getD 1 0) ((fsts L').getD 2 0)) (by rw [← h4])
  rw [← h4] at h5
  refine ⟨v1, v2, e, l1, ?_, u2⟩
  have : v1 = _ := h5.2.2
  omega

theorem grow_both {a b c d a' b' c' d' : Int} (hw : whB a b = true) (hw' : whB c d = true) (h1 : a ≤ a') (h2 : a' ≤ b') (h3 : b' ≤ b) (h4 : c ≤ c') (h5 : c' ≤ d') (h6 : d' ≤ d) :
    (bothZ a b c d).1 ≤ (bothZ a' b' c' d').1 ∧ (bothZ a' b' c' d').1 ≤ (bothZ a' b' c' d').2 ∧ (bothZ a' b' c' d').2 ≤ (bothZ a b c d).2 := by
  obtain ⟨hab, A1, A2, B1, B2⟩ := whB_iff.1 hw
  obtain ⟨hcd, C1, C2, D1, D2⟩ := whB_iff.1 hw'
  have hP := arP_has (a := a) (b := b) (c := c) (d := d) ⟨A1, A2⟩ ⟨B1, B2⟩ ⟨C1, C2⟩ ⟨D1, D2⟩
  have hl := arP_le (a := a) (b := b) (c := c) (d := d) (a' := a') (b' := b') (c' := c') (d' := d') ⟨A1, A2⟩ ⟨B1, B2⟩ ⟨C1, C2⟩ ⟨D1, D2⟩ (by omega) (by omega) (by omega) (by omega)
  have hb := arP_bd (a := a') (b := b') (c := c') (d := d') ⟨by omega, by omega⟩ ⟨by omega, by omega⟩ ⟨by omega, by omega⟩ ⟨by omega, by omega⟩
  unfold bothZ
  generalize arP a b c d = P at *
  generalize arP a' b' c' d' = P' at *
  by_cases p : 0 ≤ a <;> by_cases q : 0 ≤ c <;> by_cases p' : 0 ≤ a' <;> by_cases q' : 0 ≤ c' <;> simp only [p, q, p', q', and_self, and_true, and_false, if_true, if_false] <;> omega

theorem grow_eith {op a b c d a' b' c' d' : Int} (hw : whB a b = true) (hw' : whB c d = true) (h1 : a ≤ a') (h2 : a' ≤ b') (h3 : b' ≤ b) (h4 : c ≤ c') (h5 : c' ≤ d') (h6 : d' ≤ d) :
    (eithZ op a b c d).1 ≤ (eithZ op a' b' c' d').1 ∧ (eithZ op a' b' c' d').1 ≤ (eithZ op a' b' c' d').2 ∧ (eithZ op a' b' c' d').2 ≤ (eithZ op a b c d).2 := by
  obtain ⟨hab, A1, A2, B1, B2⟩ := whB_iff.1 hw
  obtain ⟨hcd, C1, C2, D1, D2⟩ := whB_iff.1 hw'
  have hP := arP_has (a := a) (b := b) (c := c) (d := d) ⟨A1, A2⟩ ⟨B1, B2⟩ ⟨C1, C2⟩ ⟨D1, D2⟩
  have hl := arP_le (a := a) (b := b) (c := c) (d := d) (a' := a') (b' := b') (c' := c') (d' := d') ⟨A1, A2⟩ ⟨B1, B2⟩ ⟨C1, C2⟩ ⟨D1, D2⟩ (by omega) (by omega) (by omega) (by omega)
  have hb := arP_bd (a := a') (b := b') (c := c') (d := d') ⟨by omega, by omega⟩ ⟨by omega, by omega⟩ ⟨by omega, by omega⟩ ⟨by omega, by omega⟩
  have hP' := arP_has (a := a') (b := b') (c := c') (d := d') ⟨by omega, by omega⟩ ⟨by omega, by omega⟩ ⟨by omega, by omega⟩ ⟨by omega, by omega⟩
  unfold eithZ
  generalize arP a b c d = P at *
  generalize arP a' b' c' d' = P' at *
  by_cases ho : op = 16
  · by_cases p : a < 0 ∨ c < 0
    · by_cases p' : a' < 0 ∨ c' < 0
      · rw [if_pos p, if_pos p']; simp only; omega
      · rw [if_pos p, if_neg p', if_pos ho]; simp only; omega
    · rw [if_neg p, if_neg (show ¬ (a' < 0 ∨ c' < 0) by omega), if_pos ho, if_pos ho]; simp only; omega
  · by_cases p : a < 0 ∨ c < 0
    · by_cases p' : a' < 0 ∨ c' < 0
      · rw [if_pos p, if_pos p']; simp only; omega
      · rw [if_pos p, if_neg p', if_neg ho]; simp only; omega
    · rw [if_neg p, if_neg (show ¬ (a' < 0 ∨ c' < 0) by omega), if_neg ho, if_neg ho]; simp only; omega

theorem grow_eq {a b c d a' b' c' d' : Int} (hab : a ≤ b) (hcd : c ≤ d) (h1 : a ≤ a') (h2 : a' ≤ b') (h3 : b' ≤ b) (h4 : c ≤ c') (h5 : c' ≤ d') (h6 : d' ≤ d) :
    (eqZ a b c d).1 ≤ (eqZ a' b' c' d').1 ∧ (eqZ a' b' c' d').1 ≤ (eqZ a' b' c' d').2 ∧ (eqZ a' b' c' d').2 ≤ (eqZ a b c d).2 := by
  unfold eqZ
  by_cases p : b < c ∨ d < a
  · rw [if_pos p, if_pos (show b' < c' ∨ d' < a' by omega)]; simp
  · rw [if_neg p]
    by_cases q : a = c ∧ b = d ∧ a = b
    · rw [if_pos q, if_neg (show ¬ (b' < c' ∨ d' < a') by omega), if_pos (show a' = c' ∧ b' = d' ∧ a' = b' by omega)]; simp
    · rw [if_neg q]
      split
      · simp
      · split <;> simp

theorem grow_left {a b c d a' b' c' d' : Int} (hab : a ≤ b) (hz : ¬ (c ≤ 0 ∧ 0 ≤ d)) (h1 : a ≤ a') (h2 : a' ≤ b') (h3 : b' ≤ b) (h4 : c ≤ c') (h5 : c' ≤ d') (h6 : d' ≤ d) :
    (leftZ a b c d).1 ≤ (leftZ a' b' c' d').1 ∧ (leftZ a' b' c' d').1 ≤ (leftZ a' b' c' d').2 ∧ (leftZ a' b' c' d').2 ≤ (leftZ a b c d).2 := by
  unfold leftZ
  simp only
  by_cases p : a < 0 <;> by_cases q : 0 < b <;> by_cases p' : a' < 0 <;> by_cases q' : 0 < b' <;> simp only [p, q, p', q', if_true, if_false] <;> omega

theorem grow_sel {a b c d e f a' b' c' d' e' f' : Int} (h1 : a ≤ a') (h2 : a' ≤ b') (h3 : b' ≤ b) (h4 : c ≤ c') (h5 : c' ≤ d') (h6 : d' ≤ d) (h7 : e ≤ e') (h8 : e' ≤ f') (h9 : f' ≤ f) :
    (selZ a b c d e f).1 ≤ (selZ a' b' c' d' e' f').1 ∧ (selZ a' b' c' d' e' f').1 ≤ (selZ a' b' c' d' e' f').2 ∧ (selZ a' b' c' d' e' f').2 ≤ (selZ a b c d e f).2 := by
  unfold selZ
  by_cases p : hasB a b 0 = true
  · rw [if_pos p]
    rw [hasB_iff] at p
    by_cases q : a = 0 ∧ b = 0
    · rw [if_pos q, if_pos (hasB_iff.2 (by omega)), if_pos (show a' = 0 ∧ b' = 0 by omega)]; simp only; omega
    · rw [if_neg q]
      split
      · split <;> simp only <;> omega
      · simp only; omega
  · rw [if_neg p, if_neg (fun hh => p (hasB_iff.2 (by have := hasB_iff.1 hh; omega)))]; simp only; omega

theorem within_of {Z Z' : Int × Int} {lo hi : Int} (h : (Z, (0 : Int)) = ((lo, hi), 0)) (hh : Z.1 ≤ Z'.1 ∧ Z'.1 ≤ Z'.2 ∧ Z'.2 ≤ Z.2) : Within (Z', 0) lo hi := by
  simp only [Prod.mk.injEq, and_true] at h
  subst h
  exact ⟨Z'.1, Z'.2, rfl, hh⟩

theorem grow_reck {op k s lo hi : Int} {L' L : List (Int × Int)} (hm : smayB op k s L = true) (hr : reckZ op k s L = ((lo, hi), 0)) (hw : whB lo hi = true) (hs : Sub L' L) : Within (reckZ op k s L') lo hi := by
  obtain ⟨m2, m1, m3, m4, m5⟩ := smay_inv hm
  have gw := whB_iff.1 hw
  by_cases he : op = 7 ∨ op = 24 ∨ op = 25 ∨ op = 26 ∨ op = 27 ∨ op = 29 ∨ op = 30 ∨ op = 33
  · exact grow_ends he hm hr hw hs
  match L, L', hs, m2, m4, hr with
  | [(a, b)], [(a', b')], hs, m2, m4, hr =>
    have w1 : whB a b = true := m4 (a, b) (by simp)
    obtain ⟨⟨h1, h2, h3⟩, -⟩ := hs
    simp only at h1 h2 h3
    have g := whB_iff.1 w1
    have ho := one_cases (op := op) (by simpa using m2.symm)
    by_cases h32 : op = 32
    · subst h32
      have hk : wd k = true := m3
      have hk' := wd_iff.1 hk
      have wk : whB k k = true := whB_iff.2 (by omega)
      rw [rk_mulk rfl] at hr ⊢
      refine grow_corn (by omega) (by omega) (fun x y p1 p2 p3 p4 => ?_) h1 h2 h3 (Int.le_refl k) (Int.le_refl k) (Int.le_refl k)
      have hh := hold_corn (op := 10) (k := 0) (s := 0) (.inl rfl) w1 wk hr p1 p2 p3 p4
      refine ⟨_, ?_, hh.2.1, hh.2.2⟩
      rw [val2 rfl rfl ⟨by omega, by omega⟩ ⟨by omega, by omega⟩]
      exact fnE_mk hh.1 (wd_iff.2 (by omega))
    by_cases h31 : op = 31
    · subst h31
      have hk : inB k 0 2147483647 = true := m3
      have hk' := inB_iff.1 hk
      rw [rk_andk rfl] at hr ⊢
      exact within_of hr (grow_both w1 (whB_iff.2 (by omega)) h1 h2 h3 (Int.le_refl k) (Int.le_refl k) (Int.le_refl k))
    have h56 : op = 5 ∨ op = 6 := by omega
    rw [rk_one h56] at hr ⊢
    refine within_of hr ?_
    unfold oneZ
    by_cases h5 : op = 5
    · rw [if_pos h5, if_pos h5]; simp only; omega
    · rw [if_neg h5, if_neg h5]
      by_cases p : 0 ≤ a
      · rw [if_pos p, if_pos (show 0 ≤ a' by omega)]; simp only; omega
      · rw [if_neg p]
        by_cases q : b < 0
        · rw [if_pos q, if_neg (show ¬ 0 ≤ a' by omega), if_pos (show b' < 0 by omega)]; simp only; omega
        · rw [if_neg q]
          split
          · simp only; omega
          · split <;> simp only <;> omega
  | [(a, b), (c, d)], [(a', b'), (c', d')], hs, m2, m4, hr =>
    have w1 : whB a b = true := m4 (a, b) (by simp)
    have w2 : whB c d = true := m4 (c, d) (by simp)
    obtain ⟨⟨h1, h2, h3⟩, ⟨h4, h5, h6⟩, -⟩ := hs
    simp only at h1 h2 h3 h4 h5 h6
    have g := whB_iff.1 w1
    have g' := whB_iff.1 w2
    have har : ar op = 2 := by simpa using m2.symm
    rcases two_ways har with hop | hop | hop | hop
    · have hrr := hr
      rw [rk_div hop] at hr ⊢
      have hz : hasB c d 0 = false := by
        cases hh : hasB c d 0
        · rfl
        · unfold divZ at hr
          rw [hh] at hr
          simp at hr
      have hz' : ¬ (c ≤ 0 ∧ 0 ≤ d) := fun hh => by rw [hasB_iff.2 hh] at hz; cases hz
      have hz2 : hasB c' d' 0 = false := by
        cases hh : hasB c' d' 0
        · rfl
        · have := hasB_iff.1 hh; omega
      unfold divZ at hr ⊢
      rw [hz] at hr
      rw [hz2]
      simp only [Bool.false_eq_true, if_false] at hr ⊢
      by_cases h11 : op = 11
      · rw [if_pos h11] at hr ⊢
        refine grow_corn (a := a) (b := b) (c := c) (d := d) (by omega) (by omega) (fun x y p1 p2 p3 p4 => ?_) h1 h2 h3 h4 h5 h6
        exact val_of hm hrr hw ⟨⟨p1, p2⟩, ⟨p3, p4⟩, trivial⟩
      · rw [if_neg h11] at hr ⊢
        exact within_of hr (grow_left g.1 hz' h1 h2 h3 h4 h5 h6)
    · have hrr := hr
      rw [rk_corn hop] at hr ⊢
      refine grow_corn (a := a) (b := b) (c := c) (d := d) (by omega) (by omega) (fun x y p1 p2 p3 p4 => ?_) h1 h2 h3 h4 h5 h6
      exact val_of hm hrr hw ⟨⟨p1, p2⟩, ⟨p3, p4⟩, trivial⟩
    · exact absurd (show _ from by omega) he
    · rw [rk_two hop] at hr ⊢
      refine within_of hr ?_
      rcases hop with rfl | rfl | rfl | rfl | rfl | rfl | rfl
      · show a + c ≤ a' + c' ∧ a' + c' ≤ b' + d' ∧ b' + d' ≤ b + d
        omega
      · show a - d ≤ a' - d' ∧ a' - d' ≤ b' - c' ∧ b' - c' ≤ b - c
        omega
      · exact grow_both w1 w2 h1 h2 h3 h4 h5 h6
      · exact grow_eith w1 w2 h1 h2 h3 h4 h5 h6
      · exact grow_eith w1 w2 h1 h2 h3 h4 h5 h6
      · exact grow_eq g.1 g'.1 h1 h2 h3 h4 h5 h6
      · have hh := grow_eq g.1 g'.1 h1 h2 h3 h4 h5 h6
        show 1 - (eqZ a b c d).2 ≤ 1 - (eqZ a' b' c' d').2 ∧ 1 - (eqZ a' b' c' d').2 ≤ 1 - (eqZ a' b' c' d').1 ∧ 1 - (eqZ a' b' c' d').1 ≤ 1 - (eqZ a b c d).1
        omega
  | [(a, b), (c, d), (e, f)], [(a', b'), (c', d'), (e', f')], hs, m2, m4, hr =>
    obtain ⟨⟨h1, h2, h3⟩, ⟨h4, h5, h6⟩, ⟨h7, h8, h9⟩, -⟩ := hs
    simp only at h1 h2 h3 h4 h5 h6 h7 h8 h9
    have h3' := inB_iff.1 (three_cases (op := op) (by simpa using m2.symm))
    have h28 : op = 28 := by omega
    rw [rk_three h28] at hr ⊢
    exact within_of hr (grow_sel h1 h2 h3 h4 h5 h6 h7 h8 h9)
  | [], _, hs, m2, m4, hr => simp at m2; omega
  | _ :: _ :: _ :: _ :: _, _, hs, m2, m4, hr => simp at m5
  | [_], [], hs, _, _, _ => exact hs.elim
  | [_], _ :: _ :: _, hs, _, _, _ => exact hs.2.elim
  | [_, _], [], hs, _, _, _ => exact hs.elim
  | [_, _], [_], hs, _, _, _ => exact hs.2.elim
  | [_, _], _ :: _ :: _ :: _, hs, _, _, _ => exact hs.2.2.elim
  | [_, _, _], [], hs, _, _, _ => exact hs.elim
  | [_, _, _], [_], hs, _, _, _ => exact hs.2.elim
  | [_, _, _], [_, _], hs, _, _, _ => exact hs.2.2.elim
  | [_, _, _], _ :: _ :: _ :: _ :: _, hs, _, _, _ => exact hs.2.2.2.elim

theorem grows_all {op k s lo hi : Int} {L' L : List (Int × Int)} (h : ofZ op k s L = ((lo, hi), 0)) (hs : Sub L' L) : ∃ lo' hi', ofZ op k s L' = ((lo', hi'), 0) ∧ lo ≤ lo' ∧ hi' ≤ hi := by
  obtain ⟨hm, hr, hw⟩ := ofZ_inv h
  obtain ⟨lo', hi', e, h1, h2, h3⟩ := grow_reck hm hr hw hs
  have gw := whB_iff.1 hw
  refine ⟨lo', hi', ?_, h1, h3⟩
  unfold ofZ
  rw [if_pos (sub_may hs hm), e]
  exact finZ_mk (whB_iff.2 (by omega))

end Go.Proofs.YtlhbgkaknfhlnaaGreat.Spn
