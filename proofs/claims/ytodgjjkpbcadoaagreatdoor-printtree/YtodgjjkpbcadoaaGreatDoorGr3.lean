/-
  The parts of a call, read from the left; how long expressions are.
-/
import Derived.Test.YtodgjjkpbcadoaaGreatDoorGr2
namespace Pz
open Lx
set_option linter.unusedVariables false

theorem wd_leaf {nm : List Txt} {s : Txt} {e : E} (h : wd nm s = some e) : ∃ n, e = .leaf n := by
  unfold wd at h
  split at h
  · cases h; exact ⟨_, rfl⟩
  · split at h
    · cases h; exact ⟨_, rfl⟩
    · cases h
theorem g_len {nm : List Txt} {c : Nat} {l : List Tk} {e : E} (h : G nm c l e) : e.size ≤ l.length := by
  induction h with
  | up _ _ ih => exact ih
  | sel _ _ _ ih1 ih2 ih3 => simp [E.size]; omega
  | bin _ _ _ ih1 ih2 => simp [E.size]; omega
  | neg _ ih => simp [E.size]; omega
  | par _ ih => simp; omega
  | num v => simp [E.size]
  | word _ _ _ h => obtain ⟨n, rfl⟩ := wd_leaf h; simp [E.size]
  | place _ h => obtain ⟨m, -, -, ⟨n, rfl, -⟩, -⟩ := plc_split h; simp [E.size]
  | call1 _ _ ih => simp [E.size]; omega
  | call2 _ _ _ ih ih2 => simp [E.size]; omega
  | call3 _ _ _ _ ih ih2 ih3 => simp [E.size]; omega
theorem r_len {nm : List Txt} {c : Nat} {l r : List Tk} {e : E} (h : R nm (.at c) l (some (e, r))) : e.size + r.length ≤ l.length := by
  obtain ⟨p, rfl, hg⟩ := sound h e r rfl
  have := g_len hg
  rw [List.length_append]; omega

/-- The sizes, the nodes and the numbers of a call's parts. -/
def szL : List E → Nat
  | [] => 0
  | a :: es => a.size + szL es
def flL : List E → Nat → List Nd
  | [], _ => []
  | a :: es, s => a.flat s ++ flL es (s + a.size)
theorem szL_snoc (es : List E) (a : E) : szL (es ++ [a]) = szL es + a.size := by
  induction es with
  | nil => simp [szL]
  | cons b es ih => simp [szL, ih]; omega
theorem flL_snoc : ∀ (es : List E) (a : E) (s : Nat), flL (es ++ [a]) s = flL es s ++ a.flat (s + szL es)
  | [], a, s => by simp [flL, szL]
  | b :: es, a, s => by simp [flL, szL, flL_snoc es a, Nat.add_assoc]
theorem flL_len : ∀ (es : List E) (s : Nat), (flL es s).length = szL es
  | [], s => rfl
  | a :: es, s => by simp [flL, szL, E.flat_len, flL_len es]
/-- The numbers of the parts, 0 where there is none. -/
def p1 : List E → Nat → Int
  | [], _ => 0
  | a :: _, s => (s + a.size : Nat) - 1
def p2 : List E → Nat → Int
  | a :: b :: _, s => (s + a.size + b.size : Nat) - 1
  | _, _ => 0
def p3 : List E → Nat → Int
  | a :: b :: c :: _, s => (s + a.size + b.size + c.size : Nat) - 1
  | _, _ => 0
def mkE (o : Int) : List E → E
  | [a] => .un o a
  | [a, b] => .bin o a b
  | a :: b :: c :: _ => .tri o a b c
  | _ => .leaf (lf o 0 0 0 0 0)
theorem mkE_flat {o : Int} {es : List E} (h : es.length = 1 ∨ es.length = 2 ∨ es.length = 3) (s : Nat) : (mkE o es).flat s = flL es s ++ [⟨o, p1 es s, p2 es s, p3 es s, 0, 0, 0, 0, 0⟩] ∧ (mkE o es).size = szL es + 1 := by
  match es, h with
  | [a], _ => simp [mkE, E.flat, E.size, flL, szL, p1, p2, p3]
  | [a, b], _ => simp [mkE, E.flat, E.size, flL, szL, p1, p2, p3]
  | [a, b, c], _ => simp [mkE, E.flat, E.size, flL, szL, p1, p2, p3, Nat.add_assoc]
  | [], h => simp at h
  | _ :: _ :: _ :: _ :: _, h => simp at h

/-- So many parts have been read. -/
inductive AR (nm : List Txt) (l0 : List Tk) : List E → List Tk → Prop
  | nil : AR nm l0 [] l0
  | one {a : E} {r : List Tk} : R nm (.at 0) l0 (some (a, r)) → AR nm l0 [a] r
  | more {es : List E} {a : E} {l r : List Tk} : es ≠ [] → AR nm l0 es (.comma :: l) → R nm (.at 0) l (some (a, r)) → AR nm l0 (es ++ [a]) r

theorem AR.len {nm : List Txt} {l0 : List Tk} {es : List E} {l : List Tk} (h : AR nm l0 es l) : szL es + l.length ≤ l0.length := by
  induction h with
  | nil => simp [szL]
  | one h => have := r_len h; simp [szL]; omega
  | more _ _ h ih => have := r_len h; rw [szL_snoc]; simp at ih; omega
theorem AR.nil_inv {nm : List Txt} {l0 l : List Tk} (h : AR nm l0 [] l) : l = l0 := by
  generalize hx : ([] : List E) = x at h
  cases h with
  | nil => rfl
  | one _ => cases hx
  | more _ _ _ => simp at hx
theorem AR.one_inv {nm : List Txt} {l0 l : List Tk} {a : E} (h : AR nm l0 [a] l) : R nm (.at 0) l0 (some (a, l)) := by
  generalize hx : [a] = x at h
  cases h with
  | nil => cases hx
  | one h => cases hx; exact h
  | @more es a' _ _ h1 _ _ =>
    cases es with
    | nil => exact absurd rfl h1
    | cons b es => simp at hx
theorem AR.two_inv {nm : List Txt} {l0 l : List Tk} {a b : E} (h : AR nm l0 [a, b] l) : ∃ r, R nm (.at 0) l0 (some (a, .comma :: r)) ∧ R nm (.at 0) r (some (b, l)) := by
  generalize hx : [a, b] = x at h
  cases h with
  | nil => cases hx
  | one h => cases hx
  | @more es a' _ _ h1 h2 h3 =>
    match es, hx, h2 with
    | [], hx, _ => simp at hx
    | [c], hx, h2 => simp at hx; obtain ⟨rfl, rfl⟩ := hx; exact ⟨_, h2.one_inv, h3⟩
    | _ :: _ :: _, hx, _ => simp at hx
theorem AR.three_inv {nm : List Txt} {l0 l : List Tk} {a b c : E} (h : AR nm l0 [a, b, c] l) : ∃ r r2, R nm (.at 0) l0 (some (a, .comma :: r)) ∧ R nm (.at 0) r (some (b, .comma :: r2)) ∧ R nm (.at 0) r2 (some (c, l)) := by
  generalize hx : [a, b, c] = x at h
  cases h with
  | nil => cases hx
  | one h => cases hx
  | @more es a' _ _ h1 h2 h3 =>
    match es, hx, h2 with
    | [], hx, _ => simp at hx
    | [_], hx, _ => simp at hx
    | [c, d], hx, h2 => simp at hx; obtain ⟨rfl, rfl, rfl⟩ := hx; obtain ⟨r, h4, h5⟩ := h2.two_inv; exact ⟨_, _, h4, h5, h3⟩
    | _ :: _ :: _ :: _, hx, _ => simp at hx

theorem eat_no {t : Tk} {a : E} {l : List Tk} (h : l.head? ≠ some t) : eat t (some (a, l)) = none := by
  unfold eat
  split
  · rename_i heq
    cases heq
    split
    · rename_i hk; subst hk; exact absurd rfl h
    · rfl
  · rfl

/-- A comma is missing. -/
theorem AR.no_comma {nm : List Txt} {l0 l : List Tk} {es : List E} (h : AR nm l0 es l) {s : Txt} (h0 : 0 < es.length) (h1 : es.length < ari (calO s)) (hc : l.head? ≠ some .comma) : R nm (.at 8) (.word s :: .lp :: l0) none := by
  have h3 : ari (calO s) ≤ 3 := by
    have := calO_ari (ari_ne (by omega : 0 < ari (calO s))); omega
  match es, h with
  | [], _ => simp at h0
  | [a], h => exact R.calln (by simp at h1; omega) h.one_inv (eat_no hc)
  | [a, b], h =>
    obtain ⟨r, h4, h5⟩ := h.two_inv
    exact R.call3n (by simp at h1; omega) h4 (eat_mk _ _ _) h5 (eat_no hc)
  | _ :: _ :: _ :: _, _ => simp at h1; omega
/-- A part is none. -/
theorem AR.no_part {nm : List Txt} {l0 l : List Tk} {es : List E} (h : AR nm l0 es l) {s : Txt} (h1 : es.length < ari (calO s)) {l' : List Tk} (hl : (es = [] ∧ l' = l) ∨ (es ≠ [] ∧ l = .comma :: l')) (hr : R nm (.at 0) l' none) : R nm (.at 8) (.word s :: .lp :: l0) none := by
  have h3 := calO_ari (ari_ne (by omega : 0 < ari (calO s)))
  match es, h with
  | [], h =>
    have hl' : l' = l0 := by
      rcases hl with ⟨-, e⟩ | ⟨e, -⟩
      · rw [e]; exact h.nil_inv
      · exact absurd rfl e
    subst hl'
    rcases h3 with h3 | h3
    · have := R.call1 h3 hr; exact this
    · exact R.calln (by omega) hr rfl
  | [a], h =>
    obtain rfl : l = .comma :: l' := by
      rcases hl with ⟨e, -⟩ | ⟨-, e⟩
      · cases e
      · exact e
    simp at h1
    rcases h3 with h3 | h3 | h3
    · omega
    · have := R.call2 h3 h.one_inv (eat_mk _ _ _) hr; exact this
    · exact R.call3n h3 h.one_inv (eat_mk _ _ _) hr rfl
  | [a, b], h =>
    obtain rfl : l = .comma :: l' := by
      rcases hl with ⟨e, -⟩ | ⟨-, e⟩
      · cases e
      · exact e
    simp at h1
    obtain ⟨r, h4, h5⟩ := h.two_inv
    have := R.call3 (s := s) (by omega) h4 (eat_mk _ _ _) h5 (eat_mk _ _ _) hr
    exact this
  | _ :: _ :: _ :: _, _ => simp at h1; omega
/-- All parts have been read. -/
theorem AR.ends {nm : List Txt} {l0 l : List Tk} {es : List E} (h : AR nm l0 es l) {s : Txt} (h0 : 0 < es.length) (h1 : es.length = ari (calO s)) : R nm (.at 8) (.word s :: .lp :: l0) ((eat .rp (some (mkE (calO s) es, l)))) := by
  have h3 : ari (calO s) ≤ 3 := by
    have := calO_ari (ari_ne (by omega : 0 < ari (calO s))); omega
  have key : ∀ (f : E → E) (a : E), Option.map (fun p : E × List Tk => (f p.1, p.2)) (eat .rp (some (a, l))) = eat .rp (some (f a, l)) := by
    intro f a
    cases l with
    | nil => rfl
    | cons t l =>
      simp only [eat]
      split <;> rfl
  match es, h with
  | [], _ => simp at h0
  | [a], h =>
    have := R.call1 (nm := nm) h1.symm h.one_inv
    unfold mapU at this
    rw [key (fun e => .un (calO s) e)] at this
    exact this
  | [a, b], h =>
    obtain ⟨r, h4, h5⟩ := h.two_inv
    have := R.call2 (nm := nm) h1.symm h4 (eat_mk _ _ _) h5
    unfold mapB at this
    rw [key (fun e => .bin (calO s) a e)] at this
    exact this
  | [a, b, c], h =>
    obtain ⟨r, r2, h4, h5, h6⟩ := h.three_inv
    have := R.call3 (nm := nm) h1.symm h4 (eat_mk _ _ _) h5 (eat_mk _ _ _) h6
    unfold mapT at this
    rw [key (fun e => .tri (calO s) a b e)] at this
    exact this
  | _ :: _ :: _ :: _ :: _, _ => simp at h1; omega

end Pz
