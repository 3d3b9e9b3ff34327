/-
  The walk of CheckCost.
-/
import Derived.Test.YtbgmljmpmemfcaaGreatZBindsW
namespace Go.Proofs.YtbgmljmpmemfcaaGreat
open Go.RowKit Go.IntWalk Lx Pz
set_option linter.unusedVariables false

/-- What is known of the choice under m minuses: the errors of both, what the reports hold. -/
structure Ms (er er2 co co2 mx mx2 : Int) (k m : Nat) (S S2 : Sps) : Prop where
  bad : er ≠ 0 → er2 = er ∨ (0 < m ∧ er = 14 ∧ er2 = 13)
  len : er = 0 → S.length = k + 1
  co0 : er = 0 → 0 ≤ co ∧ co ≤ 200
  mx0 : er = 0 → 1 ≤ mx ∧ mx ≤ 24
  over : er = 0 → (S.getD k (0, 0)).1 = -2147483648 → 0 < m → er2 = 13
  dear : er = 0 → ((S.getD k (0, 0)).1 ≠ -2147483648 ∨ m = 0) → 200 < co + m → er2 = 14
  deep : er = 0 → ((S.getD k (0, 0)).1 ≠ -2147483648 ∨ m = 0) → co + m ≤ 200 → (er2 = 14 ∧ 24 < mx + m) ∨ (er2 = 0)
  two : er = 0 → er2 = 0 → co2 = co + m ∧ mx ≤ mx2 ∧ mx2 ≤ mx + m ∧ S2.length = k + m + 1 ∧ S2.getD (k + m) (0, 0) = turn m (S.getD k (0, 0))
  wide : er = 0 → -2147483648 ≤ (S.getD k (0, 0)).1 ∧ (S.getD k (0, 0)).1 ≤ 2147483647 ∧ -2147483648 ≤ (S.getD k (0, 0)).2 ∧ (S.getD k (0, 0)).2 ≤ 2147483647

theorem ck_val {f d : Int} {NM : List Txt} {BS : List Int} {NS : List Nd} {root : Int} (hm : Knd.May f d) (hc : chkP NM BS NS root = true) (ha : NS.any (ahB f d) = false) :
    ckE f d NM BS NS root = if (spR f d BS NS []).2 ≠ 0 then (spR f d BS NS []).2 else if 200 < coR NS ∨ 24 < mxR (dpR BS NS []) then 14 else 0 := by
  unfold ckE; rw [if_neg (by simpa using hm), if_neg (by rw [hc]; simp), if_neg (by rw [ha]; simp)]

theorem ms_of {f d : Int} {ex : E} {k m : Nat} {root root2 : Int} (hk : ex.size = k + 1) (c0 : chkP [] [] (ex.flat 0) root = true) (c2 : chkP [] [] ((negs m ex).flat 0) root2 = true) :
    Ms (ckE f d [] [] (ex.flat 0) root) (ckE f d [] [] ((negs m ex).flat 0) root2) (coR (ex.flat 0)) (coR ((negs m ex).flat 0)) (mxR (dpR [] (ex.flat 0) [])) (mxR (dpR [] ((negs m ex).flat 0) [])) k m (spR f d [] (ex.flat 0) []).1 (spR f d [] ((negs m ex).flat 0) []).1 := by
  have hw := flat_wl c0
  have hco := negs_co (ex := ex) m
  have hah := negs_ah (f := f) (d := d) (ex := ex) m
  obtain ⟨hm1, hm2⟩ := negs_mx (ex := ex) m
  have hlen : (dpR [] (ex.flat 0) []).length = ex.size := by rw [dpR_len, E.flat_len]; simp
  have hdb : Db (dpR [] (ex.flat 0) []) := Db.all (fun x hx => by simp at hx) hw
  have hmx1 : 1 ≤ mxR (dpR [] (ex.flat 0) []) := by
    have h3 := (hdb.at (i := 0) (by omega)).1
    have h2 := mxR_mem (getD_mem (D := dpR [] (ex.flat 0) []) (i := 0) (by omega))
    omega
  have key : ckE f d [] [] (ex.flat 0) root = 0 → ∃ lo hi, (spR f d [] (ex.flat 0) []).1.getD k (0, 0) = (lo, hi) ∧ Spn.whP (lo, hi) = true ∧ (spR f d [] (ex.flat 0) []).1.length = k + 1 ∧ spR f d [] (ex.flat 0) [] = ((spR f d [] (ex.flat 0) []).1, 0) := by
    intro h
    obtain ⟨a1, a2, a3, a4, a5, a6⟩ := ck_zero.1 h
    have e : spR f d [] (ex.flat 0) [] = ((spR f d [] (ex.flat 0) []).1, 0) := Prod.ext rfl a4
    have hl := spR_len e
    rw [E.flat_len, hk] at hl
    have hl' : (spR f d [] (ex.flat 0) []).1.length = k + 1 := by simpa using hl
    have hv := spR_vl a1 (ex.flat 0) [] _ (fun p hp => by simp at hp) hw e
    exact ⟨_, _, rfl, hv.at (by omega), hl', e⟩
  have val2 : Knd.May f d → (ex.flat 0).any (ahB f d) = false → ckE f d [] [] ((negs m ex).flat 0) root2 = if (spR f d [] ((negs m ex).flat 0) []).2 ≠ 0 then (spR f d [] ((negs m ex).flat 0) []).2 else if 200 < coR ((negs m ex).flat 0) ∨ 24 < mxR (dpR [] ((negs m ex).flat 0) []) then 14 else 0 := fun h1 h2 => ck_val h1 c2 (by rw [hah]; exact h2)
  refine ⟨fun h => ?_, fun h => ?_, fun h => ?_, fun h => ?_, fun h h1 h2 => ?_, fun h h1 h2 => ?_, fun h h1 h2 => ?_, fun h h2 => ?_, fun h => ?_⟩
  · by_cases hm : Knd.May f d
    · cases ha : (ex.flat 0).any (ahB f d) with
      | true =>
        refine .inl ?_
        unfold ckE
        rw [if_neg (by simpa using hm), if_neg (by rw [c2]; simp), if_pos (by rw [hah]; exact ha), if_neg (by simpa using hm), if_neg (by rw [c0]; simp), if_pos ha]
      | false =>
        have hval := ck_val hm c0 ha
        have hval2 := val2 hm ha
        obtain ⟨⟨T, e⟩, hT⟩ : ∃ Z, spR f d [] (ex.flat 0) [] = Z := ⟨_, rfl⟩
        rw [hT] at hval
        by_cases he : e = 0
        · subst he
          rw [if_neg (by simp)] at hval
          have hov : 200 < coR (ex.flat 0) ∨ 24 < mxR (dpR [] (ex.flat 0) []) := by
            apply Classical.byContradiction
            intro hn
            rw [if_neg hn] at hval
            exact h hval
          rw [if_pos hov] at hval
          have hl := spR_len hT
          rw [E.flat_len, hk] at hl
          have hv := spR_vl hm (ex.flat 0) [] T (fun p hp => by simp at hp) hw hT
          obtain ⟨⟨lo, hi⟩, hp⟩ : ∃ p, T.getD k (0, 0) = p := ⟨_, rfl⟩
          have hwp := hv.at (i := k) (by simp at hl; omega)
          rw [hp] at hwp
          by_cases hlo : lo = -2147483648 ∧ 0 < m
          · obtain ⟨rfl, hm0⟩ := hlo
            obtain ⟨m', rfl⟩ : ∃ m', m = m' + 1 := ⟨m - 1, by omega⟩
            have := negs_over hT (by rw [hk]; exact hp) hwp m'
            rw [if_pos (by rw [this]; decide), this] at hval2
            exact .inr ⟨by omega, hval, hval2⟩
          · have h0 : (spR f d [] ((negs m ex).flat 0) []).2 = 0 := by
              by_cases hm0 : m = 0
              · subst hm0
                show (spR f d [] (ex.flat 0) []).2 = 0
                rw [hT]
              · obtain ⟨Tm, h1, -, -⟩ := negs_turn hT (by rw [hk]; exact hp) hwp (fun e => hlo ⟨e, by omega⟩) m
                rw [h1]
            rw [if_neg (by simpa using h0), if_pos (by omega)] at hval2
            exact .inl (hval2.trans hval.symm)
        · rw [if_pos he] at hval
          have := negs_bad hT he m
          rw [if_pos (by rw [this]; exact he), this] at hval2
          exact .inl (hval2.trans hval.symm)
    · refine .inl ?_
      unfold ckE
      rw [if_pos hm, if_pos hm]
  · obtain ⟨-, -, -, -, hl, -⟩ := key h; exact hl
  · exact ⟨(coR_in _).1, (ck_zero.1 h).2.2.2.2.1⟩
  · exact ⟨hmx1, (ck_zero.1 h).2.2.2.2.2⟩
  · obtain ⟨a1, a2, a3, a4, a5, a6⟩ := ck_zero.1 h
    obtain ⟨lo, hi, e1, e2, e3, e4⟩ := key h
    rw [e1] at h1
    have h1 : lo = -2147483648 := h1
    subst h1
    obtain ⟨m', rfl⟩ : ∃ m', m = m' + 1 := ⟨m - 1, by omega⟩
    have := negs_over e4 (by rw [hk]; exact e1) e2 m'
    rw [val2 a1 a3, if_pos (by rw [this]; decide), this]
  · obtain ⟨a1, a2, a3, a4, a5, a6⟩ := ck_zero.1 h
    obtain ⟨lo, hi, e1, e2, e3, e4⟩ := key h
    have h0 : (spR f d [] ((negs m ex).flat 0) []).2 = 0 := by
      rcases h1 with h1 | h1
      · rw [e1] at h1
        obtain ⟨Tm, h3, -, -⟩ := negs_turn e4 (by rw [hk]; exact e1) e2 h1 m
        rw [h3]
      · subst h1; exact a4
    rw [val2 a1 a3, if_neg (by simpa using h0), if_pos (by omega)]
  · obtain ⟨a1, a2, a3, a4, a5, a6⟩ := ck_zero.1 h
    obtain ⟨lo, hi, e1, e2, e3, e4⟩ := key h
    have h0 : (spR f d [] ((negs m ex).flat 0) []).2 = 0 := by
      rcases h1 with h1 | h1
      · rw [e1] at h1
        obtain ⟨Tm, h3, -, -⟩ := negs_turn e4 (by rw [hk]; exact e1) e2 h1 m
        rw [h3]
      · subst h1; exact a4
    rw [val2 a1 a3, if_neg (by simpa using h0)]
    by_cases h5 : 200 < coR ((negs m ex).flat 0) ∨ 24 < mxR (dpR [] ((negs m ex).flat 0) [])
    · rw [if_pos h5]; exact .inl ⟨rfl, by omega⟩
    · rw [if_neg h5]; exact .inr rfl
  · obtain ⟨a1, a2, a3, a4, a5, a6⟩ := ck_zero.1 h
    obtain ⟨lo, hi, e1, e2, e3, e4⟩ := key h
    refine ⟨hco, hm1, hm2, ?_⟩
    rw [e1]
    by_cases hm0 : m = 0
    · subst hm0
      exact ⟨e3, e1⟩
    · have hlo : lo ≠ -2147483648 := by
        intro e
        subst e
        obtain ⟨m', rfl⟩ : ∃ m', m = m' + 1 := ⟨m - 1, by omega⟩
        have := negs_over e4 (by rw [hk]; exact e1) e2 m'
        have h3 := (ck_zero.1 h2).2.2.2.1
        rw [this] at h3
        cases h3
      obtain ⟨Tm, h3, h4, h5⟩ := negs_turn e4 (by rw [hk]; exact e1) e2 hlo m
      rw [h3]
      rw [hk] at h4 h5
      exact ⟨by show Tm.length = _; omega, by rw [show k + 1 + m - 1 = k + m by omega] at h5; exact h5⟩
  · obtain ⟨lo, hi, e1, e2, e3, e4⟩ := key h
    rw [e1]
    have := Spn.whB_iff.1 e2
    exact ⟨this.2.1, this.2.2.1, this.2.2.2.1, this.2.2.2.2⟩

end Go.Proofs.YtbgmljmpmemfcaaGreat
