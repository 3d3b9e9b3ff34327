/-
  What Check answers, plainly: its errors; lesser depths.
-/
import Derived.Test.YtlhbgkaknfhlnaaGreatZEaA
import Derived.Test.YtlhbgkaknfhlnaaGreatZSpGrowP
namespace Go.Proofs.YtlhbgkaknfhlnaaGreat
open Lx Pz
set_option linter.unusedVariables false

/- errors -/
def Cd (e : Int) : Prop := e = 0 ∨ e = 1 ∨ e = 12 ∨ e = 13
theorem cd0 : Cd 0 := .inl rfl
theorem cd1 : Cd 1 := .inr (.inl rfl)
theorem cd12 : Cd 12 := .inr (.inr (.inl rfl))
theorem cd13 : Cd 13 := .inr (.inr (.inr rfl))
theorem cd_ite {c : Prop} [Decidable c] {a b : Int × Int} (ha : Cd a.2) (hb : Cd b.2) : Cd (if c then a else b).2 := by split <;> assumption
theorem ex_cd (op k s a b c : Int) : Cd (Spn.ex op k s a b c).2 := by
  unfold Spn.ex
  repeat' (first | exact cd0 | exact cd12 | exact cd13 | refine cd_ite ?_ ?_)
theorem val_cd (op k s : Int) (xs : List Int) : Cd (Spn.valZ op k s xs).2 := by
  unfold Spn.valZ
  repeat' split
  all_goals first | exact cd0 | exact cd13 | exact cd1 | exact ex_cd _ _ _ _ _ _
theorem corn_cd {f : Int → Int → Int × Int} (hf : ∀ u v, Cd (f u v).2) (a b c d : Int) : Cd (Spn.cornZ f a b c d).2 := by
  unfold Spn.cornZ
  repeat' split
  all_goals first | exact cd0 | exact hf _ _
theorem ends_cd {f : List Int → Int × Int} (hf : ∀ xs, Cd (f xs).2) (L : List (Int × Int)) : Cd (Spn.endsZ f L).2 := by
  unfold Spn.endsZ
  split <;> exact hf _
theorem reck_cd (op k s : Int) (L : List (Int × Int)) : Cd (Spn.reckZ op k s L).2 := by
  unfold Spn.reckZ
  split
  · exact corn_cd (fun u v => val_cd _ _ _ _) _ _ _ _
  split
  · exact cd0
  split
  · unfold Spn.divZ
    split
    · exact cd12
    split
    · exact corn_cd (fun u v => val_cd _ _ _ _) _ _ _ _
    · exact cd0
  split
  · exact corn_cd (fun u v => val_cd _ _ _ _) _ _ _ _
  split
  · exact ends_cd (fun xs => val_cd _ _ _ _) _
  · exact cd0
theorem of_cd (op k s : Int) (L : List (Int × Int)) : Cd (Spn.ofZ op k s L).2 := by
  unfold Spn.ofZ
  split
  · unfold Spn.finZ
    split
    · exact reck_cd op k s L
    split
    · exact cd0
    · exact cd13
  · exact cd1
theorem spN_cd (f d : Int) (BS : List Int) (S : Sps) (n : Nd) : Cd (spN f d BS S n).2 := by
  unfold spN
  repeat' split
  all_goals first | exact cd0 | exact of_cd _ _ _ _
theorem spR_cd (f d : Int) (BS : List Int) : ∀ (NS : List Nd) (S : Sps), Cd (spR f d BS NS S).2
  | [], S => cd0
  | n :: NS, S => by
    unfold spR
    split
    · exact spR_cd f d BS NS _
    · exact spN_cd f d BS S n
theorem ck_ahead {f d : Int} {NM : List Txt} {BS : List Int} {NS : List Nd} {root : Int} (hm : Knd.May f d) (hc : chkP NM BS NS root = true) : NS.any (ahB f d) = (ckE f d NM BS NS root == 11) := by
  unfold ckE
  rw [if_neg (by simpa using hm), if_neg (by rw [hc]; simp)]
  cases h : NS.any (ahB f d)
  · rw [if_neg (by simp)]
    have hcd := spR_cd f d BS NS []
    symm
    rw [beq_eq_false_iff_ne]
    split
    · intro e
      rw [e] at hcd
      rcases hcd with h | h | h | h <;> omega
    · split <;> decide
  · rfl

/- lesser depths -/
def Nr (S' S : Sps) : Prop := S'.length = S.length ∧ ∀ i, i < S.length → (S.getD i (0, 0)).1 ≤ (S'.getD i (0, 0)).1 ∧ (S'.getD i (0, 0)).1 ≤ (S'.getD i (0, 0)).2 ∧ (S'.getD i (0, 0)).2 ≤ (S.getD i (0, 0)).2
theorem Nr.snoc {S' S : Sps} {p' p : Int × Int} (h : Nr S' S) (h1 : p.1 ≤ p'.1) (h2 : p'.1 ≤ p'.2) (h3 : p'.2 ≤ p.2) : Nr (S' ++ [p']) (S ++ [p]) := by
  obtain ⟨hl, hs⟩ := h
  refine ⟨by simp [hl], fun i hi => ?_⟩
  simp only [List.length_append, List.length_cons, List.length_nil] at hi
  by_cases hlt : i < S.length
  · have e1 : (S ++ [p]).getD i (0, 0) = S.getD i (0, 0) := by rw [List.getD_eq_getElem?_getD, List.getElem?_append_left hlt, ← List.getD_eq_getElem?_getD]
    have e2 : (S' ++ [p']).getD i (0, 0) = S'.getD i (0, 0) := by rw [List.getD_eq_getElem?_getD, List.getElem?_append_left (by omega), ← List.getD_eq_getElem?_getD]
    rw [e1, e2]
    exact hs i hlt
  · obtain rfl : i = S.length := by omega
    have e1 : (S ++ [p]).getD S.length (0, 0) = p := by rw [List.getD_eq_getElem?_getD, List.getElem?_append_right (Nat.le_refl _)]; simp
    have e2 : (S' ++ [p']).getD S.length (0, 0) = p' := by rw [List.getD_eq_getElem?_getD, List.getElem?_append_right (by omega)]; simp [hl]
    rw [e1, e2]
    exact ⟨h1, h2, h3⟩
theorem Nr.sub {S' S : Sps} (h : Nr S' S) : ∀ (P : List Int), (∀ p ∈ P, p.toNat < S.length) → Spn.Sub (P.map fun p => S'.getD p.toNat (0, 0)) (P.map fun p => S.getD p.toNat (0, 0))
  | [], _ => trivial
  | p :: P, hp => ⟨h.2 p.toNat (hp p (by simp)), h.sub P fun q hq => hp q (by simp [hq])⟩
theorem of_le {op k s x y : Int} {L : List (Int × Int)} (h : Spn.ofZ op k s L = ((x, y), 0)) : x ≤ y := by
  unfold Spn.ofZ at h
  split at h
  · unfold Spn.finZ at h
    split at h
    · rename_i h1
      exact absurd (congrArg Prod.snd h) h1
    · split at h
      · rename_i h2
        have e := congrArg Prod.fst h
        rw [show (Spn.reckZ op k s L).1 = (x, y) from e] at h2
        have := Spn.whB_iff.1 h2
        omega
      · cases h
  · cases h
theorem pw_mono {a b : Int} (h : a ≤ b) : Knd.pw a ≤ Knd.pw b := by
  unfold Knd.pw
  exact_mod_cast Nat.pow_le_pow_right (by decide) (by omega : a.toNat ≤ b.toNat)
theorem spN_narrow {f d d' : Int} {BS : List Int} {S S' : Sps} {n : Nd} {p : Int × Int} (hm : Knd.May f d) (hm' : Knd.May f d') (hd : d' ≤ d) (hN : Nr S' S) (hn : Wn BS S.length n) (h3 : n.op = 2 → n.k < 3) (h : spN f d BS S n = (p, 0)) :
    ∃ p', spN f d' BS S' n = (p', 0) ∧ p.1 ≤ p'.1 ∧ p'.1 ≤ p'.2 ∧ p'.2 ≤ p.2 := by
  unfold spN at h ⊢
  by_cases h4 : n.op = 4
  · rw [if_pos h4] at h ⊢
    have e := congrArg Prod.fst h
    simp only at e
    refine ⟨_, rfl, ?_⟩
    rw [← e]
    exact hN.2 _ (hn.use h4).2.2.2
  rw [if_neg h4] at h ⊢
  by_cases h1 : n.op = 1
  · rw [if_pos h1] at h ⊢
    have e := congrArg Prod.fst h
    simp only at e
    refine ⟨_, rfl, ?_⟩
    rw [← e]
    exact ⟨Int.le_refl _, Int.le_refl _, Int.le_refl _⟩
  rw [if_neg h1] at h ⊢
  by_cases h2 : n.op = 2
  · rw [if_pos h2] at h ⊢
    have e := congrArg Prod.fst h
    simp only at e
    have hk := hn.inp h2
    have hk3 := h3 h2
    have hz : ∀ x : Int, Knd.May f x → (Knd.inZ f x n.k).getD (0, 0) = if n.k = 0 then (0, Knd.colZ f - 1) else if n.k = 1 then (0, Knd.rowZ f - 1) else (0, 3) := by
      intro x hx
      unfold Knd.inZ
      rw [if_neg (by simpa using hx)]
      by_cases a0 : n.k = 0
      · rw [if_pos a0, if_pos a0]; rfl
      rw [if_neg a0, if_neg a0]
      by_cases a1 : n.k = 1
      · rw [if_pos a1, if_pos a1]; rfl
      rw [if_neg a1, if_neg a1, if_pos (by omega)]; rfl
    rw [hz d hm] at e
    refine ⟨_, rfl, ?_⟩
    rw [hz d' hm', ← e]
    have c1 : 0 < Knd.colZ f := by unfold Knd.colZ; split <;> omega
    have c2 : 0 < Knd.rowZ f := by unfold Knd.rowZ; split <;> omega
    refine ⟨Int.le_refl _, ?_, Int.le_refl _⟩
    split
    · show (0 : Int) ≤ Knd.colZ f - 1; omega
    · split
      · show (0 : Int) ≤ Knd.rowZ f - 1; omega
      · decide
  rw [if_neg h2] at h ⊢
  by_cases h5 : n.op = 3
  · rw [if_pos h5] at h ⊢
    have e := congrArg Prod.fst h
    simp only at e
    refine ⟨_, rfl, ?_⟩
    rw [← e]
    show Knd.lowZ f d ≤ Knd.lowZ f d' ∧ Knd.lowZ f d' ≤ Knd.highZ f d' ∧ Knd.highZ f d' ≤ Knd.highZ f d
    have hp := pw_mono (show d' - 1 ≤ d - 1 by omega)
    have hp2 := (Knd.pw_le (d' - 1) (by have := hm'.2.2; omega)).1
    rcases hm.1 with rfl | rfl
    · rw [(Knd.zs0 hm).1, (Knd.zs0 hm).2.1, (Knd.zs0 hm').1, (Knd.zs0 hm').2.1]
      omega
    · rw [(Knd.zs1 hm).1, (Knd.zs1 hm).2.1, (Knd.zs1 hm').1, (Knd.zs1 hm').2.1]
      omega
  rw [if_neg h5] at h ⊢
  obtain ⟨x, y⟩ := p
  obtain ⟨lo', hi', e, e1, e2⟩ := Spn.grows_all h (hN.sub (prts n) fun q hq => (hn.prt q hq).2)
  exact ⟨(lo', hi'), e, e1, of_le e, e2⟩
theorem spR_narrow {f d d' : Int} {BS : List Int} (hm : Knd.May f d) (hm' : Knd.May f d') (hd : d' ≤ d) : ∀ (NS : List Nd) (S S' T : Sps), Nr S' S → Wl BS S.length NS → (∀ n ∈ NS, n.op = 2 → n.k < 3) → spR f d BS NS S = (T, 0) → ∃ T', spR f d' BS NS S' = (T', 0) ∧ Nr T' T
  | [], S, S', T, hN, _, _, h => by cases h; exact ⟨S', rfl, hN⟩
  | n :: NS, S, S', T, hN, hw, h3, h => by
    unfold spR at h ⊢
    obtain ⟨⟨p, e⟩, hp⟩ : ∃ Z, spN f d BS S n = Z := ⟨_, rfl⟩
    rw [hp] at h
    by_cases he : e = 0
    · subst he
      rw [if_pos rfl] at h
      obtain ⟨p', hp', a1, a2, a3⟩ := spN_narrow hm hm' hd hN hw.1 (h3 n (by simp)) hp
      rw [hp', if_pos rfl]
      exact spR_narrow hm hm' hd NS _ _ T (hN.snoc a1 a2 a3) (by simpa using hw.2) (fun m hm => h3 m (by simp [hm])) h
    · rw [if_neg he] at h
      exact absurd (congrArg Prod.snd h) he
theorem plcs_same {f d d' : Int} (hm : Knd.May f d) (hm' : Knd.May f d') : Knd.plcs f d = Knd.plcs f d' := by
  unfold Knd.plcs Knd.blks; rw [if_pos hm, if_pos hm']
theorem ah_same {f d d' : Int} (hm : Knd.May f d) (hm' : Knd.May f d') : ahB f d = ahB f d' := by
  funext n
  unfold ahB Knd.numZ
  rw [plcs_same hm hm']
theorem ck_zero {f d : Int} {NM : List Txt} {BS : List Int} {NS : List Nd} {root : Int} : ckE f d NM BS NS root = 0 ↔ Knd.May f d ∧ chkP NM BS NS root = true ∧ NS.any (ahB f d) = false ∧ (spR f d BS NS []).2 = 0 ∧ coR NS ≤ 200 ∧ mxR (dpR BS NS []) ≤ 24 := by
  unfold ckE
  by_cases h1 : Knd.May f d
  · rw [if_neg (by simpa using h1)]
    cases h2 : chkP NM BS NS root
    · simp
    · rw [if_neg (by simp)]
      cases h3 : NS.any (ahB f d)
      · rw [if_neg (by simp)]
        by_cases h4 : (spR f d BS NS []).2 = 0
        · rw [if_neg (by simpa using h4)]
          by_cases h5 : 200 < coR NS ∨ 24 < mxR (dpR BS NS [])
          · rw [if_pos h5]
            constructor
            · intro h; cases h
            · rintro ⟨-, -, -, -, a, b⟩; omega
          · rw [if_neg h5]
            exact ⟨fun _ => ⟨h1, rfl, rfl, h4, by omega, by omega⟩, fun _ => rfl⟩
        · rw [if_pos h4]
          exact ⟨fun h => absurd h h4, fun h => absurd h.2.2.2.1 h4⟩
      · rw [if_pos rfl]
        constructor
        · intro h; cases h
        · rintro ⟨-, -, h, -⟩; cases h
  · rw [if_pos h1]
    constructor
    · intro h; cases h
    · intro h; exact absurd h.1 h1
theorem ck_narrow {f d d' : Int} {NM : List Txt} {BS : List Int} {NS : List Nd} {root : Int} (hm' : Knd.May f d') (hd : d' ≤ d) (hw : Wl BS 0 NS) (h3 : ∀ n ∈ NS, n.op = 2 → n.k < 3) (h : ckE f d NM BS NS root = 0) :
    ckE f d' NM BS NS root = 0 ∧ Nr (spR f d' BS NS []).1 (spR f d BS NS []).1 := by
  obtain ⟨a1, a2, a3, a4, a5, a6⟩ := ck_zero.1 h
  obtain ⟨T', e1, e2⟩ := spR_narrow a1 hm' hd NS [] [] (spR f d BS NS []).1 ⟨rfl, fun i hi => by simp at hi⟩ hw h3 (Prod.ext rfl a4)
  rw [e1]
  exact ⟨ck_zero.2 ⟨hm', a2, by rw [← ah_same a1 hm']; exact a3, by rw [e1], a5, a6⟩, e2⟩

end Go.Proofs.YtlhbgkaknfhlnaaGreat
