/-
  The tokens and the program of a text that binds one name.
-/
import Derived.Test.YtamekjocchekoaaGr3
namespace Pz
open Lx
set_option linter.unusedVariables false

/-- A token at a text's beginning, and what follows it. -/
theorem sc_app {k : Int} {x r : List UInt8} {p : Nat} {T : List Tok} (hm : may k x = true) (hx : ∃ c t, x = c :: t ∧ bl c = false ∧ c ≠ 35) (hk : kd (x ++ r) = k) (hz : sz (x ++ r) = x.length) (h : sc r (p + x.length) = some T) : sc (x ++ r) p = some (⟨k, x, p⟩ :: T) := by
  obtain ⟨c, t, rfl, h1, h2⟩ := hx
  have ht : ((c :: t) ++ r).take (c :: t).length = c :: t := List.take_left
  have hd : ((c :: t) ++ r).drop (c :: t).length = r := List.drop_left
  have hg : gd ((c :: t) ++ r) = true := by unfold gd; rw [hk, hz, ht]; exact hm
  rw [List.cons_append] at hg hk hz ht hd ⊢
  rw [sc_tok h1 h2 hg, hz, hk, ht, hd, h]
  rfl
theorem sc_word {x r : List UInt8} {p : Nat} {T : List Tok} (hw : wrd x = true) (hr : ∀ a, r.head? = some a → W a = false) (h : sc r (p + x.length) = some T) : sc (x ++ r) p = some (⟨2, x, p⟩ :: T) := by
  cases x with
  | nil => simp [wrd] at hw
  | cons c t =>
    have hA : A c = true := by simp [wrd] at hw; exact hw.1.2
    have hall : (c :: t).all W = true := by simp only [wrd, Bool.and_eq_true] at hw; exact hw.2
    have h3 := A_not hA
    refine sc_app (by simpa [may] using hw) ⟨c, t, rfl, h3.1, h3.2.1⟩ ?_ ?_ h
    · simp [kd, hA, h3.2.2.1]
    · simp only [sz, List.cons_append, List.headD_cons, hA, h3.2.2.1, if_true, Bool.false_eq_true, if_false]
      rw [← List.cons_append, rn, takeWhile_app W _ _ hall hr]
theorem sc1 {c : UInt8} {r : List UInt8} {p : Nat} {T : List Tok} {k : Int} (h1 : bl c = false) (h2 : c ≠ 35) (h : gd (c :: r) = true) (hz : sz (c :: r) = 1) (hk : kd (c :: r) = k) (hr : sc r (p + 1) = some T) : sc (c :: r) p = some (⟨k, [c], p⟩ :: T) := by
  rw [sc_tok h1 h2 h, hz, hk]
  simp only [List.drop_succ_cons, List.drop_zero, List.take_succ_cons, List.take_zero, hr, Option.map_some]

theorem names_tks {x : Txt} (hw : wrd x = true) : ∃ T, tks ([108, 101, 116, 32] ++ x ++ [61, 49, 59, 50]) = some T ∧ T.map ab = [.word wLet, .word x, .eq, .num 1, .semi, .num 2] := by
  have hl : x.length ≤ 16 := by simp only [wrd, Bool.and_eq_true, decide_eq_true_eq] at hw; exact hw.1.1.2
  have h1 : ∀ p, sc [61, 49, 59, 50] p = some [⟨3, [61], p⟩, ⟨1, [49], p + 1⟩, ⟨3, [59], p + 1 + 1⟩, ⟨1, [50], p + 1 + 1 + 1⟩] := fun p =>
    sc1 (by decide) (by decide) (by decide) (by decide) (by decide) (sc1 (by decide) (by decide) (by decide) (by decide) (by decide) (sc1 (by decide) (by decide) (by decide) (by decide) (by decide) (sc1 (by decide) (by decide) (by decide) (by decide) (by decide) (sc_nil _))))
  have h2 := fun p => sc_word (p := p) hw (r := [61, 49, 59, 50]) (by intro a ha; simp at ha; subst ha; decide) (h1 _)
  have h3 := sc_word (x := wLet) (p := 0) (r := 32 :: (x ++ [61, 49, 59, 50])) (by decide) (by intro a ha; simp at ha; subst ha; decide) ((sc_blank (by decide) _ _).trans (h2 _))
  have e : [108, 101, 116, 32] ++ x ++ [61, 49, 59, 50] = wLet ++ 32 :: (x ++ [61, 49, 59, 50]) := by simp [wLet]
  have h4 : tks ([108, 101, 116, 32] ++ x ++ [61, 49, 59, 50]) = sc (wLet ++ 32 :: (x ++ [61, 49, 59, 50])) 0 := by
    unfold tks
    rw [if_neg (by simp; omega), e]
  exact ⟨_, h4.trans h3, rfl⟩

theorem names_gp {x : Txt} (h : resv x = false) : GP [] [] [.word wLet, .word x, .eq, .num 1, .semi, .num 2] ([x], [.leaf (lf 1 1 0 0 0 0)], .leaf (lf 1 2 0 0 0 0)) := by
  have g : ∀ nm v, G nm 0 [.num v] (.leaf (lf 1 v 0 0 0 0)) := fun nm v => G.up (by omega) (G.up (by omega) (G.up (by omega) (G.up (by omega) (G.up (by omega) (G.up (by omega) (G.up (by omega) (G.up (by omega) (G.num v))))))))
  exact GP.bind (l1 := [.num 1]) (l2 := [.num 2]) h rfl (g _ 1) (GP.last (g _ 2))
theorem names_no {x : Txt} (h : resv x = true) (o : Out) : ¬ GP [] [] [.word wLet, .word x, .eq, .num 1, .semi, .num 2] o := by
  intro hg
  generalize hl : [Tk.word wLet, .word x, .eq, .num 1, .semi, .num 2] = l at hg
  cases hg with
  | last g =>
    subst hl
    have := (g_plain (by intro s hs; simp at hs) g).1
    simp [plain] at this
  | bind h1 _ _ _ =>
    simp only [List.cons.injEq, Tk.word.injEq] at hl
    rw [← hl.2.1, h] at h1
    cases h1

end Pz
