/-
  What Check answers, plainly: its errors; lesser depths.
-/
import Derived.Test.YtngnnijpdjhelaaGreatZEaA
import Derived.Test.YtngnnijpdjhelaaGreatZSpGrowP
import Derived.Test.YtngnnijpdjhelaaGreatZTaA
namespace Go.Proofs.YtngnnijpdjhelaaGreat
open Lx Pz
set_option linter.unusedVariables false

/- errors -/
def Cd (e : Int) : Prop := e = 0 ∨ e = 1 ∨ e = 12 ∨ e = 13
theorem cd0 : Cd 0 := .inl rfl
theorem cd1 : Cd 1 := .inr (.inl rfl)
theorem cd12 : Cd 12 := .inr (.inr (.inl rfl))
theorem cd13 : Cd 13 := .inr (.inr (.inr rfl))
theorem cd_ite {c : Prop} [Decidable c] {a b : Int × Int} (ha : Cd a.2) (hb : Cd b.2) : Cd (if c then a else b).2 := by split <;> assumption
theorem ex_cd (op k s a b c : Int) : Cd (Spn.ex op k s a b c).2 := by
  unfold Spn.ex
  repeat' (first | exact cd0 | exact cd12 | exact cd13 | refine cd_ite ?_ ?_)
theorem val_cd (op k s : Int) (xs : List Int) : Cd (Spn.valZ op k s xs).2 := by
  unfold Spn.valZ
  repeat' split
  all_goals first | exact cd0 | exact cd13 | exact cd1 | exact ex_cd _ _ _ _ _ _
theorem corn_cd {f : Int → Int → Int × Int} (hf : ∀ u v, Cd (f u v).2) (a b c d : Int) : Cd (Spn.cornZ f a b c d).2 := by
  unfold Spn.cornZ
  repeat' split
  all_goals first | exact cd0 | exact hf _ _
theorem ends_cd {f : List Int → Int × Int} (hf : ∀ xs, Cd (f xs).2) (L : List (Int × Int)) : Cd (Spn.endsZ f L).2 := by
  unfold Spn.endsZ
  split <;> exact hf _
theorem reck_cd (op k s : Int) (L : List (Int × Int)) : Cd (Spn.reckZ op k s L).2 := by
  unfold Spn.reckZ
  split
  · exact corn_cd (fun u v => val_cd _ _ _ _) _ _ _ _
  split
  · exact cd0
  split
  · unfold Spn.divZ
    split
    · exact cd12
    split
    · exact corn_cd (fun u v => val_cd _ _ _ _) _ _ _ _
    · exact cd0
  split
  · exact corn_cd (fun u v => val_cd _ _ _ _) _ _ _ _
  split
  · exact ends_cd (fun xs => val_cd _ _ _ _) _
  · exact cd0
theorem of_cd (op k s : Int) (L : List (Int × Int)) : Cd (Spn.ofZ op k s L).2 := by
  unfold Spn.ofZ
  split
  · unfold Spn.finZ
    split
    · exact reck_cd op k s L
    split
    · exact cd0
    · exact cd13
  · exact cd1
theorem spN_cd (f d : Int) (BS : List Int) (S : Sps) (n : Nd) : Cd (spN f d BS S n).2 := by
  unfold spN
  repeat' split
  all_goals first | exact cd0 | exact of_cd _ _ _ _
theorem spR_cd (f d : Int) (BS : List Int) : ∀ (NS : List Nd) (S : Sps), Cd (spR f d BS NS S).2
  | [], S => cd0
  | n :: NS, S => by
    unfold spR
    split
    · exact spR_cd f d BS NS _
    · exact spN_cd f d BS S n
theorem ck_ahead {f d : Int} {NM : List Txt} {BS : List Int} {NS : List Nd} {root : Int} (hm : Knd.May f d) (hc : chkP NM BS NS root = true) : NS.any (ahB f d) = (ckE f d NM BS NS root == 11) := by
  unfold ckE
  rw [if_neg (by simpa using hm), if_neg (by rw [hc]; simp)]
  cases h : NS.any (ahB f d)
  · rw [if_neg (by simp)]
    have hcd := spR_cd f d BS NS []
    symm
    rw [beq_eq_false_iff_ne]
    split
    · intro e
      rw [e] at hcd
      rcases hcd with h | h | h | h <;> omega
    · split <;> decide
  · rfl

/- lesser depths -/
def Nr (S' S : Sps) : Prop := S'.length = S.length ∧ ∀ i, i < S.length → (S.getD i (0, 0)).1 ≤ (S'.getD i (0, 0)).1 ∧ (S'.getD i (0, 0)).1 ≤ (S'.getD i (0, 0)).2 ∧ (S'.getD i (0, 0)).2 ≤ (S.getD i (0, 0)).2
theorem Nr.snoc {S' S : Sps} {p' p : Int × Int} (h : Nr S' S) (h1 : p.1 ≤ p'.1) (h2 : p'.1 ≤ p'.2) (h3 : p'.2 ≤ p.2) : Nr (S' ++ [p']) (S ++ [p]) := by
  obtain ⟨hl, hs⟩ := h
  refine ⟨by simp [hl], fun i hi => ?_⟩
  simp only [List.length_append, List.length_cons, List.length_nil] at hi
  by_cases hlt : i < S.length
  · have e1 : (S ++ [p]).getD i (0, 0) = S.getD i (0, 0) := by rw [List.getD_eq_getElem?_getD, List.getElem?_append_left hlt, ← List.getD_eq_getElem?_getD]
    have e2 : (S' ++ [p']).getD i (0, 0) = S'.getD i (0, 0) := by rw [List.getD_eq_getElem?_getD, List.getElem?_append_left (by omega), ← List.getD_eq_getElem?_getD]
    rw [e1, e2]
    exact hs i hlt
  · obtain rfl : i = S.length := by omega
    have e1 : (S ++ [p]).getD S.length (0, 0) = p := by rw [List.getD_eq_getElem?_getD, List.getElem?_append_right (Nat.le_refl _)]; simp
    have e2 : (S' ++ [p']).getD S.length (0, 0) = p' := by rw [List.getD_eq_getElem?_getD, List.getElem?_append_right (by omega)]; simp [hl]
    rw [e1, e2]
    exact ⟨h1, h2, h3⟩
theorem Nr.sub {S' S : Sps} (h : Nr S' S) : ∀ (P : List Int), (∀ p ∈ P, p.toNat < S.length) → Spn.Sub (P.map fun p => S'.getD p.toNat (0, 0)) (P.map fun p => S.getD p.toNat (0, 0))
  | [], _ => trivial
  | p :: P, hp => ⟨h.2 p.toNat (hp p (by simp)), h.sub P fun q hq => hp q (by simp [hq])⟩
theorem of_le {op k s x y : Int} {L : List (Int × Int)} (h : Spn.ofZ op k s L = ((x, y), 0)) : x ≤ y := by
  unfold Spn.ofZ at h
  split at h
  · unfold Spn.finZ at h
    split at h
    · rename_i h1
      exact absurd (congrArg Prod.snd h) h1
    · split at h
      · rename_i h2
        have e := congrArg Prod.fst h
        rw [show (Spn.reckZ op k s L).1 = (x, y) from e] at h2
        have := Spn.whB_iff.1 h2
        omega
      · cases h
  · cases h
theorem pw_mono {a b : Int} (h : a ≤ b) : Knd.pw a ≤ Knd.pw b := by
  unfold Knd.pw
  exact_mod_cast Nat.pow_le_pow_right (by decide) (by omega : a.toNat ≤ b.toNat)
theorem spN_narrow {f d d' : Int} {BS : List Int} {S S' : Sps} {n : Nd} {p : Int × Int} (hm : Knd.May f d) (hm' : Knd.May f d') (hd : d' ≤ d) (hN : Nr S' S) (hn : Wn BS S.length n) (h3 : n.op = 2 → n.k < 3) (h : spN f d BS S n = (p, 0)) :
    ∃ p', spN f d' BS S' n = (p', 0) ∧ p.1 ≤ p'.1 ∧ p'.1 ≤ p'.2 ∧ p'.2 ≤ p.2 := by
  unfold spN at h ⊢
  by_cases h4 : n.op = 4
  · rw [if_pos h4] at h ⊢
    have e := congrArg Prod.fst h
    simp only at e
    refine ⟨_, rfl, ?_⟩
    rw [← e]
    exact hN.2 _ (hn.use h4).2.2.2
  rw [if_neg h4] at h ⊢
  by_cases h1 : n.op = 1
  · rw [if_pos h1] at h ⊢
    have e := congrArg Prod.fst h
    simp only at e
    refine ⟨_, rfl, ?_⟩
    rw [← e]
    exact ⟨Int.le_refl _, Int.le_refl _, Int.le_refl _⟩
  rw [if_neg h1] at h ⊢
  by_cases h2 : n.op = 2
  · rw [if_pos h2] at h ⊢
    have e := congrArg Prod.fst h
    simp only at e
    have hk := hn.inp h2
    have hk3 := h3 h2
    have hz : ∀ x : Int, Knd.May f x → (Knd.inZ f x n.k).getD (0, 0) = if n.k = 0 then (0, Knd.colZ f - 1) else if n.k = 1 then (0, Knd.rowZ f - 1) else (0, 3) := by
      intro x hx
      unfold Knd.inZ
      rw [if_neg (by simpa using hx)]
      by_cases a0 : n.k = 0
      · rw [if_pos a0, if_pos a0]; rfl
      rw [if_neg a0, if_neg a0]
      by_cases a1 : n.k = 1
      · rw [if_pos a1, if_pos a1]; rfl
      rw [if_neg a1, if_neg a1, if_pos (by omega)]; rfl
    rw [hz d hm] at e
    refine ⟨_, rfl, ?_⟩
    rw [hz d' hm', ← e]
    have c1 : 0 < Knd.colZ f := by unfold Knd.colZ; split <;> omega
    have c2 : 0 < Knd.rowZ f := by unfold Knd.rowZ; split <;> omega
    refine ⟨Int.le_refl _, ?_, Int.le_refl _⟩
    split
    · show (0 : Int) ≤ Knd.colZ f - 1; omega
    · split
      · show (0 : Int) ≤ Knd.rowZ f - 1; omega
      · decide
  rw [if_neg h2] at h ⊢
  by_cases h5 : n.op = 3
  · rw [if_pos h5] at h ⊢
    have e := congrArg Prod.fst h
    simp only at e
    refine ⟨_, rfl, ?_⟩
    rw [← e]
    show Knd.lowZ f d ≤ Knd.lowZ f d' ∧ Knd.lowZ f d' ≤ Knd.highZ f d' ∧ Knd.highZ f d' ≤ Knd.highZ f d
    have hp := pw_mono (show d' - 1 ≤ d - 1 by omega)
    have hp2 := (Knd.pw_le (d' - 1) (by have := hm'.2.2; omega)).1
    rcases hm.1 with rfl | rfl
    · rw [(Knd.zs0 hm).1, (Knd.zs0 hm).2.1, (Knd.zs0 hm').1, (Knd.zs0 hm').2.1]
      omega
    · rw [(Knd.zs1 hm).1, (Knd.zs1 hm).2.1, (Knd.zs1 hm').1, (Knd.zs1 hm').2.1]
      omega
  rw [if_neg h5] at h ⊢
  obtain ⟨x, y⟩ := p
  obtain ⟨lo', hi', e, e1, e2⟩ := Spn.grows_all h (hN.sub (prts n) fun q hq => (hn.prt q hq).2)
  exact ⟨(lo', hi'), e, e1, of_le e, e2⟩
theorem spR_narrow {f d d' : Int} {BS : List Int} (hm : Knd.May f d) (hm' : Knd.May f d') (hd : d' ≤ d) : ∀ (NS : List Nd) (S S' T : Sps), Nr S' S → Wl BS S.length NS → (∀ n ∈ NS, n.op = 2 → n.k < 3) → spR f d BS NS S = (T, 0) → ∃ T', spR f d' BS NS S' = (T', 0) ∧ Nr T' T
  | [], S, S', T, hN, _, _, h => by cases h; exact ⟨S', rfl, hN⟩
  | n :: NS, S, S', T, hN, hw, h3, h => by
    unfold spR at h ⊢
    obtain ⟨⟨p, e⟩, hp⟩ : ∃ Z, spN f d BS S n = Z := ⟨_, rfl⟩
    rw [hp] at h
    by_cases he : e = 0
    · subst he
      rw [if_pos rfl] at h
      obtain ⟨p', hp', a1, a2, a3⟩ := spN_narrow hm hm' hd hN hw.1 (h3 n (by simp)) hp
      rw [hp', if_pos rfl]
      exact spR_narrow hm hm' hd NS _ _ T (hN.snoc a1 a2 a3) (by simpa using hw.2) (fun m hm => h3 m (by simp [hm])) h
    · rw [if_neg he] at h
      exact absurd (congrArg Prod.snd h) he
theorem plcs_same {f d d' : Int} (hm : Knd.May f d) (hm' : Knd.May f d') : Knd.plcs f d = Knd.plcs f d' := by
  unfold Knd.plcs Knd.blks; rw [if_pos hm, if_pos hm']
theorem ah_same {f d d' : Int} (hm : Knd.May f d) (hm' : Knd.May f d') : ahB f d = ahB f d' := by
  funext n
  unfold ahB Knd.numZ
  rw [plcs_same hm hm']
theorem ck_zero {f d : Int} {NM : List Txt} {BS : List Int} {NS : List Nd} {root : Int} : ckE f d NM BS NS root = 0 ↔ Knd.May f d ∧ chkP NM BS NS root = true ∧ NS.any (ahB f d) = false ∧ (spR f d BS NS []).2 = 0 ∧ coR NS ≤ 200 ∧ mxR (dpR BS NS []) ≤ 24 := by
  unfold ckE
  by_cases h1 : Knd.May f d
  · rw [if_neg (by simpa using h1)]
    cases h2 : chkP NM BS NS root
    · simp
    · rw [if_neg (by simp)]
      cases h3 : NS.any (ahB f d)
      · rw [if_neg (by simp)]
        by_cases h4 : (spR f d BS NS []).2 = 0
        · rw [if_neg (by simpa using h4)]
          by_cases h5 : 200 < coR NS ∨ 24 < mxR (dpR BS NS [])
          · rw [if_pos h5]
            constructor
            · intro h; cases h
            · rintro ⟨-, -, -, -, a, b⟩; omega
          · rw [if_neg h5]
            exact ⟨fun _ => ⟨h1, rfl, rfl, h4, by omega, by omega⟩, fun _ => rfl⟩
        · rw [if_pos h4]
          exact ⟨fun h => absurd h h4, fun h => absurd h.2.2.2.1 h4⟩
      · rw [if_pos rfl]
        constructor
        · intro h; cases h
        · rintro ⟨-, -, h, -⟩; cases h
  · rw [if_pos h1]
    constructor
    · intro h; cases h
    · intro h; exact absurd h.1 h1
theorem ck_narrow {f d d' : Int} {NM : List Txt} {BS : List Int} {NS : List Nd} {root : Int} (hm' : Knd.May f d') (hd : d' ≤ d) (hw : Wl BS 0 NS) (h3 : ∀ n ∈ NS, n.op = 2 → n.k < 3) (h : ckE f d NM BS NS root = 0) :
    ckE f d' NM BS NS root = 0 ∧ Nr (spR f d' BS NS []).1 (spR f d BS NS []).1 := by
  obtain ⟨a1, a2, a3, a4, a5, a6⟩ := ck_zero.1 h
  obtain ⟨T', e1, e2⟩ := spR_narrow a1 hm' hd NS [] [] (spR f d BS NS []).1 ⟨rfl, fun i hi => by simp at hi⟩ hw h3 (Prod.ext rfl a4)
  rw [e1]
  exact ⟨ck_zero.2 ⟨hm', a2, by rw [← ah_same a1 hm']; exact a3, by rw [e1], a5, a6⟩, e2⟩

end Go.Proofs.YtngnnijpdjhelaaGreat

/-
  A choice under a name, and under minuses: its text's tokens, its tree.
-/
namespace Go.Proofs.YtngnnijpdjhelaaGreat
open Lx Pz
set_option linter.unusedVariables false

theorem begins_head (t : Tk) (r s : List Tk) : begins (t :: r) = begins (t :: s) := by cases t <;> rfl
theorem begins_app {l : List Tk} (h : begins l = true) (r : List Tk) : begins (l ++ r) = true := by
  cases l with
  | nil => cases h
  | cons t l => rw [List.cons_append, begins_head t _ l]; exact h
theorem g_begins {nm : List Txt} {c : Nat} {l : List Tk} {e : E} (h : G nm c l e) : begins l = true := by
  induction h with
  | up _ _ ih => exact ih
  | sel _ _ _ ih1 _ _ => exact begins_app ih1 _
  | bin _ _ _ ih1 _ => exact begins_app ih1 _
  | neg _ _ => rfl
  | par _ _ => rfl
  | num _ => rfl
  | word _ _ _ _ => rfl
  | place _ _ => rfl
  | call1 _ _ _ => rfl
  | call2 _ _ _ _ _ => rfl
  | call3 _ _ _ _ _ _ _ => rfl
/-- What is read as a choice does not begin as a comparison goes on. -/
theorem st_of {t : Txt} {A : List Tk} {e : E} (ha : ak t = some A) (hg : G [] 0 A e) (r : Txt) : St (t ++ 10 :: r) := by
  have hb := g_begins hg
  cases t with
  | nil =>
    rw [ak_nil] at ha
    cases ha
    cases hb
  | cons c t =>
    intro d hd
    simp only [List.cons_append, List.head?_cons, Option.some.injEq] at hd
    subst hd
    have key : c = 60 ∨ c = 61 ∨ c = 62 → False := by
      intro hc
      have h1 : bl c = false := by rcases hc with rfl | rfl | rfl <;> rfl
      have h2 : c ≠ 35 := by rcases hc with rfl | rfl | rfl <;> decide
      cases hgd : gd (c :: t) with
      | false => rw [ak_bad h1 h2 hgd] at ha; cases ha
      | true =>
        rw [ak_tok h1 h2 hgd] at ha
        cases hr : ak ((c :: t).drop (sz (c :: t))) with
        | none => rw [hr] at ha; cases ha
        | some B =>
          rw [hr] at ha
          simp only [Option.map_some, Option.some.injEq] at ha
          rw [← ha, begins_head _ _ []] at hb
          have hk : kd (c :: t) = 3 := by rcases hc with rfl | rfl | rfl <;> rfl
          have hz : sz (c :: t) = if two.contains ((c :: t).take 2) then 2 else 1 := by rcases hc with rfl | rfl | rfl <;> rfl
          rw [hk, hz] at hb
          have hab : ∀ x, ab ⟨3, x, 0⟩ = mkT x := fun x => rfl
          rw [hab] at hb
          have h2two : ∀ x ∈ two, begins [mkT x] = false := by decide
          split at hb
          · rename_i h
            have := h2two _ (List.contains_iff_mem.1 h)
            rw [this] at hb
            cases hb
          · rcases hc with rfl | rfl | rfl
            · exact absurd (show begins [mkT [60]] = true from hb) (by decide)
            · exact absurd (show begins [mkT [61]] = true from hb) (by decide)
            · exact absurd (show begins [mkT [62]] = true from hb) (by decide)
    exact ⟨fun h => key (.inl h), fun h => key (.inr (.inl h)), fun h => key (.inr (.inr h))⟩

def wZ : Txt := [122]
/-- A choice under a name, and what is behind it. -/
theorem ak_let {t b : Txt} {A B : List Tk} {e : E} (ha : ak t = some A) (hg : G [] 0 A e) (hb : ak b = some B) :
    ak ([108, 101, 116, 32, 122, 61] ++ t ++ 10 :: 59 :: b) = some (.word wLet :: .word wZ :: .eq :: (A ++ .semi :: B)) := by
  have h1 : ∀ r, ak (108 :: 101 :: 116 :: 32 :: r) = (ak (32 :: r)).map ([.word wLet] ++ ·) := fun r => ak_wrd (x := wLet) (by decide) (32 :: r) (fo_cons (by decide) r)
  have h2 : ∀ r, ak (122 :: 61 :: r) = (ak (61 :: r)).map ([.word wZ] ++ ·) := fun r => ak_wrd (x := wZ) (by decide) (61 :: r) (fo_cons (by decide) r)
  have h3 : ak (61 :: (t ++ 10 :: 59 :: b)) = (ak (t ++ 10 :: 59 :: b)).map ([.eq] ++ ·) := ak_eq _ (st_of ha hg _)
  have h4 : ak (59 :: b) = some (.semi :: B) := by rw [show ak (59 :: b) = _ from ak_semi b trivial, hb]; rfl
  have h5 := ak_nl t.length t (59 :: b) (Nat.le_refl _)
  rw [ha, h4] at h5
  simp only [Option.bind_some, Option.map_some] at h5
  simp only [List.cons_append, List.nil_append]
  rw [h1, ak_blank (by decide), h2, h3, h5]
  simp
theorem gp_use {A : List Tk} {e : E} (hg : G [] 0 A e) : GP [] [] (.word wLet :: .word wZ :: .eq :: (A ++ .semi :: [.word wZ])) ([wZ], [e], .leaf (lf 4 0 0 0 0 0)) :=
  GP.bind (by decide) rfl hg (GP.last (G.ups (G.word (by decide) (by decide) (by decide) (by rfl)) (by decide) (by decide)))
theorem gp_seven {A : List Tk} {e : E} (hg : G [] 0 A e) : GP [] [] (.word wLet :: .word wZ :: .eq :: (A ++ .semi :: [.num 7])) ([wZ], [e], .leaf (lf 1 7 0 0 0 0)) :=
  GP.bind (by decide) rfl hg (GP.last (G.ups (G.num 7) (by decide) (by decide)))
theorem ak_z : ak [122] = some [.word wZ] := by
  have := ak_wrd (x := wZ) (by decide) [] fo_nil
  rw [ak_nil] at this
  exact this
theorem ak_7 : ak [55] = some [.num 7] := by
  have := ak_dec (u := 7) (by decide) [] fo_nil
  rw [dec_small (by decide), ak_nil] at this
  exact this

/- minuses -/
def negs : Nat → E → E
  | 0, e => e
  | m + 1, e => .un 5 (negs m e)
def ngK (A : List Tk) : Nat → List Tk
  | 0 => .lp :: (A ++ [.rp])
  | m + 1 => .op 5 9 :: ngK A m
theorem ak_negs {t : Txt} {A : List Tk} (ha : ak t = some A) : ∀ m, ak (List.replicate m 45 ++ [40] ++ t ++ [10, 41]) = some (ngK A m)
  | 0 => by
    have h4 : ak [41] = some [.rp] := by rw [show ak [41] = _ from ak_rp [] trivial, ak_nil]; rfl
    have h5 := ak_nl t.length t [41] (Nat.le_refl _)
    rw [ha, h4] at h5
    simp only [Option.bind_some, Option.map_some] at h5
    simp only [List.replicate_zero, List.nil_append, List.cons_append]
    have h6 : ak (40 :: (t ++ [10, 41])) = (ak (t ++ [10, 41])).map ([.lp] ++ ·) := ak_lp (t ++ [10, 41]) trivial
    rw [h6, h5]
    rfl
  | m + 1 => by
    have := ak_negs ha m
    simp only [List.replicate_succ, List.cons_append]
    have h6 : ak (45 :: (List.replicate m 45 ++ [40] ++ t ++ [10, 41])) = (ak (List.replicate m 45 ++ [40] ++ t ++ [10, 41])).map ([.op 5 9] ++ ·) := ak_minus _ trivial
    rw [h6, this]
    rfl
theorem g_negs {A : List Tk} {e : E} (hg : G [] 0 A e) : ∀ m, G [] 8 (ngK A m) (negs m e)
  | 0 => G.par hg
  | m + 1 => G.neg (g_negs hg m)
theorem gp_negs {A : List Tk} {e : E} (hg : G [] 0 A e) (m : Nat) : GP [] [] (ngK A m) ([], [], negs m e) := GP.last (G.ups (g_negs hg m) (by decide) (by decide))

end Go.Proofs.YtngnnijpdjhelaaGreat

/-
  What Check answers of a choice under a name, beside a number, under minuses: plainly.
-/
namespace Go.Proofs.YtngnnijpdjhelaaGreat
open Lx Pz
set_option linter.unusedVariables false

theorem mxR_snoc (D : List Int) (x : Int) : mxR (D ++ [x]) = max (mxR D) x := by unfold mxR; rw [List.foldl_append]; rfl
theorem mxR_mem {D : List Int} {x : Int} (h : x ∈ D) : x ≤ mxR D := mem_fold_max D 0 x h
theorem getD_mem {D : List Int} {i : Nat} (h : i < D.length) : D.getD i 0 ∈ D := by
  rw [List.getD_eq_getElem?_getD, List.getElem?_eq_getElem h]; exact List.getElem_mem h
theorem dp_snoc (BS : List Int) (A : List Nd) (n : Nd) (D : List Int) : dpR BS (A ++ [n]) D = dpR BS A D ++ [dpN BS (dpR BS A D) n] := by
  rw [dpR_app]; rfl
/- no use of a name -/
theorem no_use {i : Nat} : ∀ {NS : List Nd} {i : Nat}, Wl [] i NS → ∀ n ∈ NS, n.op ≠ 4
  | [], i, h => by simp
  | n :: NS, i, h => by
    intro m hm
    rcases List.mem_cons.1 hm with rfl | hm
    · intro h4
      have := (h.1.use h4).2.1
      simp at this
    · exact no_use (i := i + 1) h.2 m hm
theorem spR_free {f d : Int} (BS BS' : List Int) : ∀ (NS : List Nd) (S : Sps), (∀ n ∈ NS, n.op ≠ 4) → spR f d BS NS S = spR f d BS' NS S
  | [], S, h => rfl
  | n :: NS, S, h => by
    have e : spN f d BS S n = spN f d BS' S n := by unfold spN; rw [if_neg (h n (by simp)), if_neg (h n (by simp))]
    simp only [spR, e]
    split
    · exact spR_free BS BS' NS _ fun m hm => h m (by simp [hm])
    · rfl
theorem dpR_free (BS BS' : List Int) : ∀ (NS : List Nd) (D : List Int), (∀ n ∈ NS, n.op ≠ 4) → dpR BS NS D = dpR BS' NS D
  | [], D, h => rfl
  | n :: NS, D, h => by
    have e : dpN BS D n = dpN BS' D n := by unfold dpN; rw [if_neg (h n (by simp)), if_neg (h n (by simp))]
    simp only [dpR, e]
    exact dpR_free BS BS' NS _ fun m hm => h m (by simp [hm])
/-- Check's error of two trees, where what it hangs on is the same. -/
theorem ck_eq {f d : Int} {NM NM' : List Txt} {BS BS' : List Int} {NS NS' : List Nd} {root root' : Int} (h1 : chkP NM BS NS root = true) (h2 : chkP NM' BS' NS' root' = true) (h3 : NS.any (ahB f d) = NS'.any (ahB f d)) (h4 : (spR f d BS NS []).2 = (spR f d BS' NS' []).2) (h5 : coR NS = coR NS') (h6 : mxR (dpR BS NS []) = mxR (dpR BS' NS' [])) :
    ckE f d NM BS NS root = ckE f d NM' BS' NS' root' := by
  unfold ckE; rw [h1, h2, h3, h4, h5, h6]
theorem any_app1 {f d : Int} (NS : List Nd) {n : Nd} (h : n.op ≠ 3) : (NS ++ [n]).any (ahB f d) = NS.any (ahB f d) := by
  rw [List.any_append, List.any_cons, List.any_nil]
  have : ahB f d n = false := by unfold ahB; rw [show (n.op == 3) = false by simpa using h]; rfl
  rw [this]; simp

section
variable {f d : Int} {ex : E} {NM : List Txt} {root root' : Int}
abbrev use0 : Nd := lf 4 0 0 0 0 0
abbrev num7 : Nd := lf 1 7 0 0 0 0
theorem nodes_one (ex : E) (n : Nd) : nodesOf [ex] (.leaf n) = ex.flat 0 ++ [n] := by simp [nodesOf, flL, E.flat]
theorem bd_one (ex : E) : bdL [ex] 0 = [(ex.size : Int) - 1] := by simp [bdL]
theorem flat_wl (h : chkP [] [] (ex.flat 0) root = true) : Wl [] 0 (ex.flat 0) := by
  obtain ⟨es, e, hD⟩ := chk_dec.1 h
  exact hD.wl
theorem binds_use (h0 : chkP [] [] (ex.flat 0) root = true) (h1 : chkP NM [(ex.size : Int) - 1] (ex.flat 0 ++ [use0]) root' = true) :
    ckE f d NM [(ex.size : Int) - 1] (ex.flat 0 ++ [use0]) root' = ckE f d [] [] (ex.flat 0) root ∧ coR (ex.flat 0 ++ [use0]) = coR (ex.flat 0) ∧
    mxR (dpR [(ex.size : Int) - 1] (ex.flat 0 ++ [use0]) []) = mxR (dpR [] (ex.flat 0) []) ∧
    ((spR f d [] (ex.flat 0) []).2 = 0 → (spR f d [(ex.size : Int) - 1] (ex.flat 0 ++ [use0]) []).1 = (spR f d [] (ex.flat 0) []).1 ++ [(spR f d [] (ex.flat 0) []).1.getD (ex.size - 1) (0, 0)]) := by
  have hw := flat_wl h0
  have hf := no_use (i := 0) hw
  have hp := ex.size_pos
  have e1 : spR f d [(ex.size : Int) - 1] (ex.flat 0) [] = spR f d [] (ex.flat 0) [] := spR_free _ _ _ _ hf
  have e2 : dpR [(ex.size : Int) - 1] (ex.flat 0) [] = dpR [] (ex.flat 0) [] := dpR_free _ _ _ _ hf
  have hco : coR (ex.flat 0 ++ [use0]) = coR (ex.flat 0) := by rw [coR_snoc]; show coR (ex.flat 0) + 0 = _; omega
  have hlen : (dpR [] (ex.flat 0) []).length = ex.size := by rw [dpR_len, E.flat_len]; simp
  have hidx : (((ex.size : Int) - 1)).toNat = ex.size - 1 := by omega
  have hmx : mxR (dpR [(ex.size : Int) - 1] (ex.flat 0 ++ [use0]) []) = mxR (dpR [] (ex.flat 0) []) := by
    rw [dp_snoc, e2, mxR_snoc]
    have hN : dpN [(ex.size : Int) - 1] (dpR [] (ex.flat 0) []) use0 = (dpR [] (ex.flat 0) []).getD (ex.size - 1) 0 := by
      show (dpR [] (ex.flat 0) []).getD ([(ex.size : Int) - 1].getD (0 : Int).toNat 0).toNat 0 = _
      rw [show [(ex.size : Int) - 1].getD (0 : Int).toNat 0 = (ex.size : Int) - 1 from rfl, hidx]
    rw [hN]
    have := mxR_mem (getD_mem (D := dpR [] (ex.flat 0) []) (i := ex.size - 1) (by omega))
    omega
  have hsp : ∀ T e, spR f d [] (ex.flat 0) [] = (T, e) → spR f d [(ex.size : Int) - 1] (ex.flat 0 ++ [use0]) [] = if e = 0 then (T ++ [T.getD (ex.size - 1) (0, 0)], 0) else ([], e) := by
    intro T e h
    rw [← e1] at h
    by_cases he : e = 0
    · subst he
      rw [spR_snoc h, if_pos rfl]
      have hN : spN f d [(ex.size : Int) - 1] T use0 = (T.getD (ex.size - 1) (0, 0), 0) := by
        show (T.getD ([(ex.size : Int) - 1].getD (0 : Int).toNat 0).toNat (0, 0), (0 : Int)) = _
        rw [show [(ex.size : Int) - 1].getD (0 : Int).toNat 0 = (ex.size : Int) - 1 from rfl, hidx]
      rw [hN, if_pos rfl]
    · rw [spR_bad h he, if_neg he]
  have hs2 := hsp _ _ rfl
  refine ⟨ck_eq h1 h0 (any_app1 _ (by decide)) ?_ hco hmx, hco, hmx, fun h => ?_⟩
  · rw [hs2]
    split
    · rename_i h; exact h.symm
    · rfl
  · rw [hs2, if_pos h]
theorem binds_num (h0 : chkP [] [] (ex.flat 0) root = true) (h1 : chkP NM [(ex.size : Int) - 1] (ex.flat 0 ++ [num7]) root' = true) (hc : ckE f d [] [] (ex.flat 0) root = 0) :
    ckE f d NM [(ex.size : Int) - 1] (ex.flat 0 ++ [num7]) root' = (if coR (ex.flat 0) = 200 then 14 else 0) ∧ coR (ex.flat 0 ++ [num7]) = coR (ex.flat 0) + 1 ∧
    mxR (dpR [(ex.size : Int) - 1] (ex.flat 0 ++ [num7]) []) = mxR (dpR [] (ex.flat 0) []) ∧
    (spR f d [(ex.size : Int) - 1] (ex.flat 0 ++ [num7]) []).1 = (spR f d [] (ex.flat 0) []).1 ++ [(7, 7)] := by
  have hw := flat_wl h0
  have hf := no_use (i := 0) hw
  have hp := ex.size_pos
  obtain ⟨a1, a2, a3, a4, a5, a6⟩ := ck_zero.1 hc
  have e1 : spR f d [(ex.size : Int) - 1] (ex.flat 0) [] = spR f d [] (ex.flat 0) [] := spR_free _ _ _ _ hf
  have e2 : dpR [(ex.size : Int) - 1] (ex.flat 0) [] = dpR [] (ex.flat 0) [] := dpR_free _ _ _ _ hf
  have hco : coR (ex.flat 0 ++ [num7]) = coR (ex.flat 0) + 1 := by rw [coR_snoc]; rfl
  have hlen : (dpR [] (ex.flat 0) []).length = ex.size := by rw [dpR_len, E.flat_len]; simp
  have hdb : Db (dpR [] (ex.flat 0) []) := Db.all (fun x hx => by simp at hx) hw
  have hmx : mxR (dpR [(ex.size : Int) - 1] (ex.flat 0 ++ [num7]) []) = mxR (dpR [] (ex.flat 0) []) := by
    rw [dp_snoc, e2, mxR_snoc]
    have hN : dpN [(ex.size : Int) - 1] (dpR [] (ex.flat 0) []) num7 = 1 := rfl
    rw [hN]
    have h3 := (hdb.at (i := 0) (by omega)).1
    have h2 := mxR_mem (getD_mem (D := dpR [] (ex.flat 0) []) (i := 0) (by omega))
    omega
  have hs : spR f d [(ex.size : Int) - 1] (ex.flat 0 ++ [num7]) [] = ((spR f d [] (ex.flat 0) []).1 ++ [(7, 7)], 0) := by
    have h : spR f d [(ex.size : Int) - 1] (ex.flat 0) [] = ((spR f d [] (ex.flat 0) []).1, 0) := by rw [e1]; exact Prod.ext rfl a4
    rw [spR_snoc h]
    have hN : spN f d [(ex.size : Int) - 1] (spR f d [] (ex.flat 0) []).1 num7 = ((7, 7), 0) := rfl
    rw [hN, if_pos rfl]
  refine ⟨?_, hco, hmx, by rw [hs]⟩
  unfold ckE
  rw [if_neg (by simpa using a1), if_neg (by rw [h1]; simp), any_app1 _ (by decide), if_neg (by rw [a3]; simp), hs, if_neg (by simp), hco, hmx]
  by_cases h2 : coR (ex.flat 0) = 200
  · rw [if_pos h2, if_pos (by omega)]
  · rw [if_neg h2, if_neg (by omega)]
end

/- spans are whole -/
def Vl (S : Sps) : Prop := ∀ p ∈ S, Spn.whP p = true
theorem Vl.at {S : Sps} (h : Vl S) {i : Nat} (hi : i < S.length) : Spn.whP (S.getD i (0, 0)) = true := by
  rw [List.getD_eq_getElem?_getD, List.getElem?_eq_getElem hi]; exact h _ (List.getElem_mem hi)
theorem wh_of {x y : Int} (h : x ≤ y) (h1 : -2147483648 ≤ x) (h2 : y ≤ 2147483647) : Spn.whP (x, y) = true := Spn.whB_iff.2 ⟨h, h1, by omega, by omega, h2⟩
theorem spN_vl {f d : Int} {BS : List Int} {S : Sps} {n : Nd} {p : Int × Int} (hm : Knd.May f d) (hv : Vl S) (hn : Wn BS S.length n) (h : spN f d BS S n = (p, 0)) : Spn.whP p = true := by
  have hw1 := (Knd.pw_le (d - 1) (by have := hm.2.2; omega))
  have hw2 : Knd.pw (d - 1) ≤ 32768 := by
    have h1 := pw_mono (show d - 1 ≤ 15 by have := hm.2.2; omega)
    have h2 : Knd.pw 15 = 32768 := by decide
    omega
  unfold spN at h
  by_cases h4 : n.op = 4
  · rw [if_pos h4] at h
    cases h
    exact hv.at (hn.use h4).2.2.2
  rw [if_neg h4] at h
  by_cases h1 : n.op = 1
  · rw [if_pos h1] at h
    cases h
    have := hn.num h1
    exact wh_of (Int.le_refl _) (by omega) (by omega)
  rw [if_neg h1] at h
  by_cases h2 : n.op = 2
  · rw [if_pos h2] at h
    have e : (Knd.inZ f d n.k).getD (0, 0) = p := congrArg Prod.fst h
    have hk := hn.inp h2
    have c1 : 0 < Knd.colZ f ∧ Knd.colZ f ≤ 1048576 := by unfold Knd.colZ; split <;> omega
    have c2 : 0 < Knd.rowZ f ∧ Knd.rowZ f ≤ 1048576 := by unfold Knd.rowZ; split <;> omega
    have c3 : -32768 ≤ Knd.lowZ f d ∧ Knd.lowZ f d ≤ 65535 ∧ -32768 ≤ Knd.highZ f d ∧ Knd.highZ f d ≤ 65535 ∧ -32768 ≤ Knd.borderZ f d ∧ Knd.borderZ f d ≤ 65535 := by
      rcases hm.1 with rfl | rfl
      · rw [(Knd.zs0 hm).1, (Knd.zs0 hm).2.1, (Knd.zs0 hm).2.2.1]; omega
      · rw [(Knd.zs1 hm).1, (Knd.zs1 hm).2.1, (Knd.zs1 hm).2.2.1]; omega
    unfold Knd.inZ at e
    rw [if_neg (by simpa using hm)] at e
    rw [← e]
    repeat' split
    all_goals first | exact wh_of (by omega) (by omega) (by omega) | (exfalso; omega)
  rw [if_neg h2] at h
  by_cases h5 : n.op = 3
  · rw [if_pos h5] at h
    cases h
    rcases hm.1 with rfl | rfl
    · rw [(Knd.zs0 hm).1, (Knd.zs0 hm).2.1]; exact wh_of (by omega) (by omega) (by omega)
    · rw [(Knd.zs1 hm).1, (Knd.zs1 hm).2.1]; exact wh_of (by omega) (by omega) (by omega)
  rw [if_neg h5] at h
  unfold Spn.ofZ at h
  split at h
  · unfold Spn.finZ at h
    split at h
    · rename_i h1
      exact absurd (congrArg Prod.snd h) h1
    · split at h
      · rename_i h2
        have e : _ = p := congrArg Prod.fst h
        rw [← e]; exact h2
      · cases h
  · cases h
theorem spR_vl {f d : Int} {BS : List Int} (hm : Knd.May f d) : ∀ (NS : List Nd) (S T : Sps), Vl S → Wl BS S.length NS → spR f d BS NS S = (T, 0) → Vl T
  | [], S, T, hv, _, h => by cases h; exact hv
  | n :: NS, S, T, hv, hw, h => by
    unfold spR at h
    obtain ⟨⟨p, e⟩, hp⟩ : ∃ Z, spN f d BS S n = Z := ⟨_, rfl⟩
    rw [hp] at h
    by_cases he : e = 0
    · subst he
      rw [if_pos rfl] at h
      have h1 := spN_vl hm hv hw.1 hp
      refine spR_vl hm NS _ T (fun q hq => ?_) (by simpa using hw.2) h
      rcases List.mem_append.1 hq with hq | hq
      · exact hv q hq
      · simp at hq; rw [hq]; exact h1
    · rw [if_neg he] at h
      exact absurd (congrArg Prod.snd h) he

/- minuses -/
theorem of_neg {lo hi : Int} (h : Spn.whP (lo, hi) = true) : Spn.ofZ 5 0 0 [(lo, hi)] = if lo = -2147483648 then ((0, 0), 13) else ((-hi, -lo), 0) := by
  unfold Spn.ofZ
  have hs : Spn.smayB 5 0 0 [(lo, hi)] = true := by
    simp only [Spn.smayB, List.all_cons, List.all_nil, h, Bool.and_true]
    exact (by decide : (decide ((1 : Int) ≤ Spn.ar 5) && decide (((1 : Nat) : Int) = Spn.ar 5) && Spn.cons 5 0 0) = true)
  have hb := Spn.whB_iff.1 h
  rw [if_pos hs, Spn.rk_one (.inl rfl)]
  show Spn.finZ ((-hi, -lo), 0) = _
  unfold Spn.finZ
  rw [if_neg (by simp)]
  simp only
  by_cases hl : lo = -2147483648
  · rw [if_pos hl, if_neg (fun e => by have := Spn.whB_iff.1 e; omega)]
  · rw [if_neg hl, if_pos (Spn.whB_iff.2 ⟨by omega, by omega, by omega, by omega, by omega⟩)]
theorem negs_size (m : Nat) (e : E) : (negs m e).size = e.size + m := by
  induction m with
  | zero => rfl
  | succ m ih => show (negs m e).size + 1 = _; omega
abbrev ngN (s m : Nat) : Nd := ⟨5, ((s + m : Nat) : Int) - 1, 0, 0, 0, 0, 0, 0, 0⟩
theorem negs_flat (m : Nat) (e : E) : (negs (m + 1) e).flat 0 = (negs m e).flat 0 ++ [ngN e.size m] := by
  show (negs m e).flat 0 ++ [⟨5, ((0 + (negs m e).size : Nat) : Int) - 1, 0, 0, 0, 0, 0, 0, 0⟩] = _
  rw [negs_size, Nat.zero_add]
/-- The span turned so often. -/
def turn (m : Nat) (p : Int × Int) : Int × Int := if m % 2 = 1 then (-p.2, -p.1) else p

section
variable {f d : Int} {ex : E}
theorem negs_co (m : Nat) : coR ((negs m ex).flat 0) = coR (ex.flat 0) + m := by
  induction m with
  | zero => show coR (ex.flat 0) = _; simp
  | succ m ih => rw [negs_flat, coR_snoc, ih]; show coR (ex.flat 0) + m + 1 = _; omega
theorem negs_ah (m : Nat) : ((negs m ex).flat 0).any (ahB f d) = (ex.flat 0).any (ahB f d) := by
  induction m with
  | zero => rfl
  | succ m ih => rw [negs_flat, any_app1 _ (show (5 : Int) ≠ 3 by decide), ih]
theorem negs_mx (m : Nat) : mxR (dpR [] (ex.flat 0) []) ≤ mxR (dpR [] ((negs m ex).flat 0) []) ∧ mxR (dpR [] ((negs m ex).flat 0) []) ≤ mxR (dpR [] (ex.flat 0) []) + m := by
  induction m with
  | zero => exact ⟨Int.le_refl _, by show mxR (dpR [] (ex.flat 0) []) ≤ _; omega⟩
  | succ m ih =>
    have hl : (dpR [] ((negs m ex).flat 0) []).length = ex.size + m := by rw [dpR_len, E.flat_len, negs_size]; simp
    rw [negs_flat, dp_snoc, mxR_snoc]
    have hp := ex.size_pos
    have hN : dpN [] (dpR [] ((negs m ex).flat 0) []) (ngN ex.size m) = max 0 ((dpR [] ((negs m ex).flat 0) []).getD (ex.size + m - 1) 0) + 1 := by
      show ([((ex.size + m : Nat) : Int) - 1].map fun p => (dpR [] ((negs m ex).flat 0) []).getD p.toNat 0).foldl max 0 + 1 = _
      simp only [List.map_cons, List.map_nil, List.foldl_cons, List.foldl_nil]
      rw [show (((ex.size + m : Nat) : Int) - 1).toNat = ex.size + m - 1 by omega]
    have h1 := mxR_mem (getD_mem (D := dpR [] ((negs m ex).flat 0) []) (i := ex.size + m - 1) (by omega))
    have h0 : 0 ≤ mxR (dpR [] ((negs m ex).flat 0) []) := le_fold_max _ _
    rw [hN]
    generalize (dpR [] ((negs m ex).flat 0) []).getD (ex.size + m - 1) 0 = x at *
    omega
theorem negs_bad {T : Sps} {e : Int} (h : spR f d [] (ex.flat 0) [] = (T, e)) (he : e ≠ 0) (m : Nat) : (spR f d [] ((negs m ex).flat 0) []).2 = e := by
  induction m with
  | zero => show (spR f d [] (ex.flat 0) []).2 = e; rw [h]
  | succ m ih =>
    rw [negs_flat, spR_bad (T := (spR f d [] ((negs m ex).flat 0) []).1) (e := e) (Prod.ext rfl ih) he]
theorem negs_step {T : Sps} {m : Nat} {lo hi : Int} (h : spR f d [] ((negs m ex).flat 0) [] = (T, 0)) (hT : T.getD (ex.size + m - 1) (0, 0) = (lo, hi)) (hw : Spn.whP (lo, hi) = true) :
    spR f d [] ((negs (m + 1) ex).flat 0) [] = if lo = -2147483648 then ([], 13) else (T ++ [(-hi, -lo)], 0) := by
  have hp := ex.size_pos
  rw [negs_flat, spR_snoc h]
  have hN : spN f d [] T (ngN ex.size m) = Spn.ofZ 5 0 0 [(lo, hi)] := by
    show Spn.ofZ 5 0 0 ([((ex.size + m : Nat) : Int) - 1].map fun p => T.getD p.toNat (0, 0)) = _
    simp only [List.map_cons, List.map_nil]
    rw [show (((ex.size + m : Nat) : Int) - 1).toNat = ex.size + m - 1 by omega, hT]
  rw [hN, of_neg hw]
  by_cases hl : lo = -2147483648
  · rw [if_pos hl, if_neg (by simp), if_pos hl]
  · rw [if_neg hl, if_pos rfl, if_neg hl]
/-- Where the least number is the least of all: refused under a minus. -/
theorem negs_over {T : Sps} {hi : Int} (h : spR f d [] (ex.flat 0) [] = (T, 0)) (hT : T.getD (ex.size - 1) (0, 0) = (-2147483648, hi)) (hw : Spn.whP (-2147483648, hi) = true) (m : Nat) : (spR f d [] ((negs (m + 1) ex).flat 0) []).2 = 13 := by
  induction m with
  | zero =>
    have := negs_step (m := 0) (ex := ex) h hT hw
    rw [this, if_pos rfl]
  | succ m ih => rw [negs_flat, spR_bad (T := (spR f d [] ((negs (m + 1) ex).flat 0) []).1) (e := 13) (Prod.ext rfl ih) (by decide)]
/-- Else it is turned as often. -/
theorem negs_turn {T : Sps} {lo hi : Int} (h : spR f d [] (ex.flat 0) [] = (T, 0)) (hT : T.getD (ex.size - 1) (0, 0) = (lo, hi)) (hw : Spn.whP (lo, hi) = true) (hl : lo ≠ -2147483648) (m : Nat) :
    ∃ Tm, spR f d [] ((negs m ex).flat 0) [] = (Tm, 0) ∧ Tm.length = ex.size + m ∧ Tm.getD (ex.size + m - 1) (0, 0) = turn m (lo, hi) := by
  have hb := Spn.whB_iff.1 hw
  have hp := ex.size_pos
  induction m with
  | zero =>
    have := spR_len h
    rw [E.flat_len] at this
    exact ⟨T, h, by simpa using this, hT⟩
  | succ m ih =>
    obtain ⟨Tm, h1, h2, h3⟩ := ih
    obtain ⟨⟨x, y⟩, hxy⟩ : ∃ p, turn m (lo, hi) = p := ⟨_, rfl⟩
    have hx : (x = lo ∧ y = hi ∧ m % 2 = 0) ∨ (x = -hi ∧ y = -lo ∧ m % 2 = 1) := by
      unfold turn at hxy
      split at hxy
      · rename_i h; cases hxy; exact .inr ⟨rfl, rfl, h⟩
      · rename_i h; cases hxy; exact .inl ⟨rfl, rfl, by omega⟩
    have hs := negs_step h1 (h3.trans hxy) (wh_of (by omega) (by omega) (by omega))
    rw [if_neg (by omega)] at hs
    refine ⟨_, hs, by simp [h2]; omega, ?_⟩
    rw [List.getD_eq_getElem?_getD, List.getElem?_append_right (by omega), show ex.size + (m + 1) - 1 - Tm.length = 0 by omega]
    show (-y, -x) = turn (m + 1) (lo, hi)
    unfold turn
    rcases hx with ⟨rfl, rfl, hm⟩ | ⟨rfl, rfl, hm⟩
    · rw [if_pos (by omega)]
    · rw [if_neg (by omega)]; simp
end

end Go.Proofs.YtngnnijpdjhelaaGreat

/-
  Texts: what Parse answers, with what is counted; texts joined; a tree by the grammar.
-/
namespace Go.Proofs.YtngnnijpdjhelaaGreat
open Go.RowKit Go.IntWalk Lx Pz
set_option linter.unusedVariables false

theorem szL_le : ∀ es : List E, es.length ≤ szL es
  | [] => Nat.le_refl _
  | a :: es => by
    have := szL_le es
    have := a.size_pos
    simp only [List.length_cons, szL]
    omega
theorem add_sB (G b : List UInt8) (W : World) (h : G.length + b.length ≤ 9223372036854775807) : (Op.stringOp .add (sB G) (sB b)).run Tryz.prog W = .ok (.string (sB (G ++ b))) W := by
  rw [run_string_add_sum W _ _ (by rw [← bs_len, ← bs_len]; exact h), ByteArray.mk_append_mk]
theorem cat {A B : ByteArray} {a b : Txt} (hA : A = sB a) (hB : B = sB b) (h : a.length + b.length ≤ 9223372036854775807) : ∃ C, C = sB (a ++ b) ∧ ∀ W, (Op.stringOp .add A B).run Tryz.prog W = .ok (.string C) W :=
  ⟨_, rfl, fun W => by subst hA hB; exact add_sB a b W h⟩

theorem dec_gp {A : List Tk} {NM : List Txt} {es : List E} {ex : E} (hok : A.all okT = true) (hg : GP [] [] A (NM, es, ex)) (hl : NM.length = es.length) (hz : szL es + ex.size ≤ 1024) :
    chkP NM (bdL es 0) (nodesOf es ex) (rootOf es ex) = true := by
  obtain ⟨h1, h2, h3⟩ := gp_gd hg hok rfl (by intro j e h; simp at h) rfl
  exact chk_dec.2 ⟨es, ex, rfl, rfl, hl, h1, h2, h3, by rw [List.length_append, flL_len, E.flat_len], by rw [List.length_append, flL_len, E.flat_len]; exact hz⟩

/-- What Parse answers, of every text. -/
theorem parse_full2 (s : ByteArray) (w : World) : Calls Tryz.prog 14 #[.string s] w fun e W' =>
    (e = .returned (.tuple #[.agg nil4, .int .i64 10]) ∧ Below w.heap.size w W') ∨
    (∃ A NM es ex na nc ba bc da dc, ak (bs s) = some A ∧ GP [] [] A (NM, es, ex) ∧ A.all okT = true ∧ NM.length = es.length ∧ nmB NM = true ∧ szL es + ex.size ≤ s.size ∧ s.size ≤ 1024 ∧
      e = .returned (.tuple #[.agg (tr4 (.slice na es.length nc) (.slice ba es.length bc) (.slice da (szL es + ex.size) dc) (.int .i64 (rootOf es ex))), .int .i64 0]) ∧ Tx W' na es.length nc NM ∧ Iz W' ba es.length bc (bdL es 0) ∧
      Nz W' da (szL es + ex.size) dc (nodesOf es ex) ∧ Below w.heap.size w W') := by
  refine (parse_read s w).mono ?_
  rintro e W1 (⟨h1, h2, -⟩ | ⟨T, NM, es, ex, na, nc, ba, bc, da, dc, hT, hA, h3, h4, rfl, h6, h7, h8, h9⟩)
  · exact .inl ⟨h1, h2⟩
  · have hg := (hA (NM, es, ex)).1 rfl
    have hok : (T.map ab).all okT = true := by
      rw [List.all_map, List.all_eq_true]
      intro t ht
      exact okT_ab (tks_wf hT t ht)
    obtain ⟨c1, c2⟩ := tks_cov hT
    have c3 := cov_len T _ 0 c1
    rw [bs_len] at c2 c3
    exact .inr ⟨T.map ab, NM, es, ex, na, nc, ba, bc, da, dc, (ak_of hT).1, hg, hok, h3, (dec_parse hT hg h3 h4).ok, by omega, c2, rfl, h6, h7, h8, h9⟩

end Go.Proofs.YtngnnijpdjhelaaGreat
