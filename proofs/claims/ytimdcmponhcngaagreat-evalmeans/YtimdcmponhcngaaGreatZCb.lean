/-
  A choice under a name, and under minuses: its text's tokens, its tree.
-/
import Derived.Test.YtimdcmponhcngaaGreatZTaA
namespace Go.Proofs.YtimdcmponhcngaaGreat
open Lx Pz
set_option linter.unusedVariables false

theorem begins_head (t : Tk) (r s : List Tk) : begins (t :: r) = begins (t :: s) := by cases t <;> rfl
theorem begins_app {l : List Tk} (h : begins l = true) (r : List Tk) : begins (l ++ r) = true := by
  cases l with
  | nil => cases h
  | cons t l => rw [List.cons_append, begins_head t _ l]; exact h
theorem g_begins {nm : List Txt} {c : Nat} {l : List Tk} {e : E} (h : G nm c l e) : begins l = true := by
  induction h with
  | up _ _ ih => exact ih
  | sel _ _ _ ih1 _ _ => exact begins_app ih1 _
  | bin _ _ _ ih1 _ => exact begins_app ih1 _
  | neg _ _ => rfl
  | par _ _ => rfl
  | num _ => rfl
  | word _ _ _ _ => rfl
  | place _ _ => rfl
  | call1 _ _ _ => rfl
  | call2 _ _ _ _ _ => rfl
  | call3 _ _ _ _ _ _ _ => rfl
/-- What is read as a choice does not begin as a comparison goes on. -/
theorem st_of {t : Txt} {A : List Tk} {e : E} (ha : ak t = some A) (hg : G [] 0 A e) (r : Txt) : St (t ++ 10 :: r) := by
  have hb := g_begins hg
  cases t with
  | nil =>
    rw [ak_nil] at ha
    cases ha
    cases hb
  | cons c t =>
    intro d hd
    simp only [List.cons_append, List.head?_cons, Option.some.injEq] at hd
    subst hd
    have key : c = 60 ∨ c = 61 ∨ c = 62 → False := by
      intro hc
      have h1 : bl c = false := by rcases hc with rfl | rfl | rfl <;> rfl
      have h2 : c ≠ 35 := by rcases hc with rfl | rfl | rfl <;> decide
      cases hgd : gd (c :: t) with
      | false => rw [ak_bad h1 h2 hgd] at ha; cases ha
      | true =>
        rw [ak_tok h1 h2 hgd] at ha
        cases hr : ak ((c :: t).drop (sz (c :: t))) with
        | none => rw [hr] at ha; cases ha
        | some B =>
          rw [hr] at ha
          simp only [Option.map_some, Option.some.injEq] at ha
          rw [← ha, begins_head _ _ []] at hb
          have hk : kd (c :: t) = 3 := by rcases hc with rfl | rfl | rfl <;> rfl
          have hz : sz (c :: t) = if two.contains ((c :: t).take 2) then 2 else 1 := by rcases hc with rfl | rfl | rfl <;> rfl
          rw [hk, hz] at hb
          have hab : ∀ x, ab ⟨3, x, 0⟩ = mkT x := fun x => rfl
          rw [hab] at hb
          have h2two : ∀ x ∈ two, begins [mkT x] = false := by decide
          split at hb
          · rename_i h
            have := h2two _ (List.contains_iff_mem.1 h)
            rw [this] at hb
            cases hb
          · rcases hc with rfl | rfl | rfl
            · exact absurd (show begins [mkT [60]] = true from hb) (by decide)
            · exact absurd (show begins [mkT [61]] = true from hb) (by decide)
            · exact absurd (show begins [mkT [62]] = true from hb) (by decide)
    exact ⟨fun h => key (.inl h), fun h => key (.inr (.inl h)), fun h => key (.inr (.inr h))⟩

def wZ : Txt := [122]
/-- A choice under a name, and what is behind it. -/
theorem ak_let {t b : Txt} {A B : List Tk} {e : E} (ha : ak t = some A) (hg : G [] 0 A e) (hb : ak b = some B) :
    ak ([108, 101, 116, 32, 122, 61] ++ t ++ 10 :: 59 :: b) = some (.word wLet :: .word wZ :: .eq :: (A ++ .semi :: B)) := by
  have h1 : ∀ r, ak (108 :: 101 :: 116 :: 32 :: r) = (ak (32 :: r)).map ([.word wLet] ++ ·) := fun r => ak_wrd (x := wLet) (by decide) (32 :: r) (fo_cons (by decide) r)
  have h2 : ∀ r, ak (122 :: 61 :: r) = (ak (61 :: r)).map ([.word wZ] ++ ·) := fun r => ak_wrd (x := wZ) (by decide) (61 :: r) (fo_cons (by decide) r)
  have h3 : ak (61 :: (t ++ 10 :: 59 :: b)) = (ak (t ++ 10 :: 59 :: b)).map ([.eq] ++ ·) := ak_eq _ (st_of ha hg _)
  have h4 : ak (59 :: b) = some (.semi :: B) := by rw [show ak (59 :: b) = _ from ak_semi b trivial, hb]; rfl
  have h5 := ak_nl t.length t (59 :: b) (Nat.le_refl _)
  rw [ha, h4] at h5
  simp only [Option.bind_some, Option.map_some] at h5
  simp only [List.cons_append, List.nil_append]
  rw [h1, ak_blank (by decide), h2, h3, h5]
  simp
theorem gp_use {A : List Tk} {e : E} (hg : G [] 0 A e) : GP [] [] (.word wLet :: .word wZ :: .eq :: (A ++ .semi :: [.word wZ])) ([wZ], [e], .leaf (lf 4 0 0 0 0 0)) :=
  GP.bind (by decide) rfl hg (GP.last (G.ups (G.word (by decide) (by decide) (by decide) (by rfl)) (by decide) (by decide)))
theorem gp_seven {A : List Tk} {e : E} (hg : G [] 0 A e) : GP [] [] (.word wLet :: .word wZ :: .eq :: (A ++ .semi :: [.num 7])) ([wZ], [e], .leaf (lf 1 7 0 0 0 0)) :=
  GP.bind (by decide) rfl hg (GP.last (G.ups (G.num 7) (by decide) (by decide)))
theorem ak_z : ak [122] = some [.word wZ] := by
  have := ak_wrd (x := wZ) (by decide) [] fo_nil
  rw [ak_nil] at this
  exact this
theorem ak_7 : ak [55] = some [.num 7] := by
  have := ak_dec (u := 7) (by decide) [] fo_nil
  rw [dec_small (by decide), ak_nil] at this
  exact this

/- minuses -/
def negs : Nat → E → E
  | 0, e => e
  | m + 1, e => .un 5 (negs m e)
def ngK (A : List Tk) : Nat → List Tk
  | 0 => .lp :: (A ++ [.rp])
  | m + 1 => .op 5 9 :: ngK A m
theorem ak_negs {t : Txt} {A : List Tk} (ha : ak t = some A) : ∀ m, ak (List.replicate m 45 ++ [40] ++ t ++ [10, 41]) = some (ngK A m)
  | 0 => by
    have h4 : ak [41] = some [.rp] := by rw [show ak [41] = _ from ak_rp [] trivial, ak_nil]; rfl
    have h5 := ak_nl t.length t [41] (Nat.le_refl _)
    rw [ha, h4] at h5
    simp only [Option.bind_some, Option.map_some] at h5
    simp only [List.replicate_zero, List.nil_append, List.cons_append]
    have h6 : ak (40 :: (t ++ [10, 41])) = (ak (t ++ [10, 41])).map ([.lp] ++ ·) := ak_lp (t ++ [10, 41]) trivial
    rw [h6, h5]
    rfl
  | m + 1 => by
    have := ak_negs ha m
    simp only [List.replicate_succ, List.cons_append]
    have h6 : ak (45 :: (List.replicate m 45 ++ [40] ++ t ++ [10, 41])) = (ak (List.replicate m 45 ++ [40] ++ t ++ [10, 41])).map ([.op 5 9] ++ ·) := ak_minus _ trivial
    rw [h6, this]
    rfl
theorem g_negs {A : List Tk} {e : E} (hg : G [] 0 A e) : ∀ m, G [] 8 (ngK A m) (negs m e)
  | 0 => G.par hg
  | m + 1 => G.neg (g_negs hg m)
theorem gp_negs {A : List Tk} {e : E} (hg : G [] 0 A e) (m : Nat) : GP [] [] (ngK A m) ([], [], negs m e) := GP.last (G.ups (g_negs hg m) (by decide) (by decide))

end Go.Proofs.YtimdcmponhcngaaGreat
