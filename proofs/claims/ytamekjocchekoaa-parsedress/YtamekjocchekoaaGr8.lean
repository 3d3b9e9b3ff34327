/-
  A text written anew from its tokens, and in brackets: its program. Plain lists.
-/
import Derived.Test.YtamekjocchekoaaGr6
import Derived.Test.YtamekjocchekoaaPure3
namespace Pz
open Lx
open Go.Proofs.Ytamekjocchekoaa (G.ups)
set_option linter.unusedVariables false

/-- What stands behind token i. -/
def bh (zs : List Int) (i : Nat) : List UInt8 := if i < zs.length ∧ zs.getD i 0 % 3 = 1 then [35, 59, 40, 10] else [32]
def drs (zs : List Int) : Nat → List Tok → List UInt8
  | _, [] => []
  | i, t :: T => t.text ++ (bh zs i ++ drs zs (i + 1) T)
theorem drs_app (zs : List Int) : ∀ (A B : List Tok) (i : Nat), drs zs i (A ++ B) = drs zs i A ++ drs zs (i + A.length) B
  | [], B, i => rfl
  | t :: A, B, i => by
    simp only [List.cons_append, drs, drs_app zs A B, List.append_assoc, List.length_cons]
    rw [show i + 1 + A.length = i + (A.length + 1) by omega]
theorem ak_bh (zs : List Int) (i : Nat) (r : List UInt8) : ak (bh zs i ++ r) = ak r ∧ ∀ d, (bh zs i ++ r).head? = some d → cuts d := by
  unfold bh
  split
  · refine ⟨?_, by intro d hd; simp at hd; subst hd; exact cuts_sh⟩
    show ak (35 :: 59 :: 40 :: 10 :: r) = _
    rw [ak_rem]
    show ak (10 :: r) = _
    exact ak_blank (by decide) r
  · exact ⟨ak_blank (by decide) r, by intro d hd; simp at hd; subst hd; exact cuts_sp⟩
theorem ak_drs (zs : List Int) : ∀ (T : List Tok) (i : Nat), (∀ t ∈ T, Fm t.kind t.text ∧ may t.kind t.text = true) → ak (drs zs i T) = some (T.map ab)
  | [], i, _ => ak_nil
  | t :: T, i, h => by
    have h1 := h t (by simp)
    simp only [drs]
    rw [ak_app h1.1 h1.2 (ak_bh zs i _).2, (ak_bh zs i _).1, ak_drs zs T (i + 1) (fun q hq => h q (by simp [hq]))]
    rfl
theorem bh_len (zs : List Int) (i : Nat) : (bh zs i).length ≤ 4 := by
  unfold bh
  split <;> simp
theorem drs_len (zs : List Int) : ∀ (T : List Tok) (l : List UInt8) (p i : Nat), Cov l p T → (drs zs i T).length ≤ l.length + 4 * T.length
  | [], l, p, i, _ => Nat.zero_le _
  | t :: T, l, p, i, ⟨g, rest, e, hp, hg, hf, hm, hc⟩ => by
    subst e
    have := drs_len zs T rest _ (i + 1) hc
    have h2 := bh_len zs i
    simp only [drs, List.length_cons, List.length_append]
    omega
theorem drs_take (zs : List Int) (T : List Tok) (k : Nat) : (drs zs 0 (T.take k)).length ≤ (drs zs 0 T).length := by
  conv => rhs; rw [← List.take_append_drop k T]
  rw [drs_app, List.length_append]
  omega
theorem drs_succ {zs : List Int} {T : List Tok} {k : Nat} {t : Tok} (h : T[k]? = some t) : drs zs 0 (T.take (k + 1)) = drs zs 0 (T.take k) ++ t.text ++ bh zs k := by
  obtain ⟨hk, e⟩ := List.getElem?_eq_some_iff.1 h
  rw [List.take_succ_eq_append_getElem hk, drs_app, e, List.length_take, Nat.min_eq_left (by omega), Nat.zero_add]
  simp [drs]
/-- Does a let stand among the tokens? -/
def lets (T : List Tok) : Bool := T.any fun t => t.text == wLet
theorem lets_succ {T : List Tok} {k : Nat} {t : Tok} (h : T[k]? = some t) : lets (T.take (k + 1)) = (lets (T.take k) || t.text == wLet) := by
  obtain ⟨hk, e⟩ := List.getElem?_eq_some_iff.1 h
  rw [List.take_succ_eq_append_getElem hk, e]
  simp [lets]
theorem ab_let {t : Tok} (h : Wf t) : ab t = .word wLet ↔ t.text = wLet := by
  rcases h with ⟨hk, h⟩ | ⟨hk, h⟩ | ⟨hk, h⟩
  · constructor
    · intro e; simp [ab, hk] at e
    · intro e; rw [e] at h; exact absurd h (by decide)
  · simp [ab, hk]
  · have : ∀ s ∈ marks.map (·.1), s ≠ wLet ∧ mkT s ≠ .word wLet := by decide
    have h2 := this _ h
    constructor
    · intro e; simp [ab, hk] at e; exact absurd e h2.2
    · intro e; exact absurd e h2.1
theorem lets_mem {l : List UInt8} {T : List Tok} (hT : tks l = some T) : lets T = true ↔ .word wLet ∈ T.map ab := by
  simp only [lets, List.any_eq_true, beq_iff_eq, List.mem_map]
  constructor
  · rintro ⟨t, h1, h2⟩; exact ⟨t, h1, (ab_let (tks_wf hT t h1)).2 h2⟩
  · rintro ⟨t, h1, h2⟩; exact ⟨t, h1, (ab_let (tks_wf hT t h1)).1 h2⟩

theorem ak_par {a : List UInt8} {A : List Tk} (ha : ak a = some A) : ak (40 :: (a ++ [10, 41])) = some (.lp :: (A ++ [.rp])) := by
  rw [ak_mark (by decide) (by decide) (by decide) (by decide) (by decide), ak_nl a.length a _ (Nat.le_refl _), ha,
    ak_mark (by decide) (by decide) (by decide) (by decide) (by decide), ak_nil]
  rfl
theorem par_no {A : List Tk} (h : .word wLet ∈ A) (o : Out) : ¬ GP [] [] (.lp :: (A ++ [.rp])) o := by
  intro hg
  generalize hl : Tk.lp :: (A ++ [.rp]) = l at hg
  cases hg with
  | last g =>
    subst hl
    have := (g_plain (by intro s hs; simp at hs) g).1
    rw [List.all_eq_true] at this
    have := this (.word wLet) (by simp [h])
    simp [plain] at this
  | bind _ _ _ _ => cases hl
theorem par_yes {A : List Tk} {NM : List Txt} {es : List E} {ex : E} (h : .word wLet ∉ A) (hg : GP [] [] A (NM, es, ex)) : NM = [] ∧ es = [] ∧ GP [] [] (.lp :: (A ++ [.rp])) ([], [], ex) := by
  generalize ho : (NM, es, ex) = o at hg
  cases hg with
  | last g => cases ho; exact ⟨rfl, rfl, GP.last (G.ups (G.par g) (by omega) (by omega))⟩
  | bind _ _ _ _ => exact absurd (by simp) h

theorem gp_same {nm : List Txt} {es : List E} {l : List Tk} {o : Out} (h : GP nm es l o) : nm.length = es.length → o.1.length = o.2.1.length := by
  induction h with
  | last _ => exact id
  | bind _ _ _ _ ih => intro e; exact ih (by simp [e])

end Pz
