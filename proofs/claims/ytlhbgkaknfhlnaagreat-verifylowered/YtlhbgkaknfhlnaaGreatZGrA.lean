/-
  Programs as lists of tokens, plainly: the grammar (G, GP), and what a reader from the left comes to (R, RP): they agree. No program, no memory.
-/
import Derived.Test.YtlhbgkaknfhlnaaGreatZLxA
namespace Pz
open Lx
set_option linter.unusedVariables false

abbrev Txt := List UInt8

inductive Tk where
  | num (v : Int)
  | word (s : Txt)
  | op (k : Nat) (o : Int)
  | ques | colon | lp | rp | comma | semi | eq
  deriving DecidableEq

structure Nd where
  op : Int
  a : Int
  b : Int
  c : Int
  k : Int
  back : Int
  co : Int
  x : Int
  y : Int
  deriving DecidableEq

/-- A leaf's node. -/
abbrev lf (op k back co x y : Int) : Nd := ⟨op, 0, 0, 0, k, back, co, x, y⟩

inductive E where
  | leaf (n : Nd)
  | un (o : Int) (a : E)
  | bin (o : Int) (a b : E)
  | tri (o : Int) (a b c : E)

def E.size : E → Nat
  | .leaf _ => 1
  | .un _ a => a.size + 1
  | .bin _ a b => a.size + b.size + 1
  | .tri _ a b c => a.size + b.size + c.size + 1

/-- The nodes of an expression, the first one's number being s. -/
def E.flat : E → Nat → List Nd
  | .leaf n, _ => [n]
  | .un o a, s => a.flat s ++ [⟨o, (s + a.size : Nat) - 1, 0, 0, 0, 0, 0, 0, 0⟩]
  | .bin o a b, s => a.flat s ++ b.flat (s + a.size) ++ [⟨o, (s + a.size : Nat) - 1, (s + a.size + b.size : Nat) - 1, 0, 0, 0, 0, 0, 0⟩]
  | .tri o a b c, s => a.flat s ++ b.flat (s + a.size) ++ c.flat (s + a.size + b.size) ++ [⟨o, (s + a.size : Nat) - 1, (s + a.size + b.size : Nat) - 1, (s + a.size + b.size + c.size : Nat) - 1, 0, 0, 0, 0, 0⟩]

theorem E.size_pos (e : E) : 0 < e.size := by cases e <;> simp [E.size]
theorem E.flat_len : ∀ (e : E) (s : Nat), (e.flat s).length = e.size
  | .leaf n, s => rfl
  | .un o a, s => by simp [E.flat, E.size, E.flat_len a]
  | .bin o a b, s => by simp [E.flat, E.size, E.flat_len a, E.flat_len b]; omega
  | .tri o a b c, s => by simp [E.flat, E.size, E.flat_len a, E.flat_len b, E.flat_len c]; omega

/- words -/
def wLet : Txt := [108, 101, 116]
def wP : Txt := [112]
def wQ : Txt := [113]
def calO (s : Txt) : Int :=
  if s = [97, 98, 115] then 6 else if s = [115, 103, 110] then 7 else if s = [109, 105, 110] then 24 else if s = [109, 97, 120] then 25
  else if s = [99, 108, 97, 109, 112] then 26 else if s = [109, 101, 100] then 27 else 0
def inK (s : Txt) : Int :=
  if s = [120] then 0 else if s = [121] then 1 else if s = [99] then 2 else if s = [108, 111] then 3 else if s = [104, 105] then 4 else if s = [109, 105, 100] then 5 else -1
def resv (s : Txt) : Bool := s == wLet || s == wP || s == wQ || calO s != 0 || decide (0 ≤ inK s)
def ari (o : Int) : Nat := if o = 6 ∨ o = 7 then 1 else if o = 24 ∨ o = 25 then 2 else if o = 26 ∨ o = 27 then 3 else 0
/-- Where a text stands in a list; its length, if it doesn't. -/
def pos (nm : List Txt) (s : Txt) : Nat := nm.findIdx (· == s)
/-- A word that is neither a call nor a place. -/
def wd (nm : List Txt) (s : Txt) : Option E :=
  if 0 ≤ inK s then some (.leaf (lf 2 (inK s) 0 0 0 0)) else if nm.contains s then some (.leaf (lf 4 (pos nm s) 0 0 0 0)) else none

theorem calO_ari {s : Txt} (h : calO s ≠ 0) : ari (calO s) = 1 ∨ ari (calO s) = 2 ∨ ari (calO s) = 3 := by
  unfold calO at h ⊢
  split
  · exact .inl rfl
  split
  · exact .inl rfl
  split
  · exact .inr (.inl rfl)
  split
  · exact .inr (.inl rfl)
  split
  · exact .inr (.inr rfl)
  split
  · exact .inr (.inr rfl)
  · rename_i h1 h2 h3 h4 h5 h6
    rw [if_neg h1, if_neg h2, if_neg h3, if_neg h4, if_neg h5, if_neg h6] at h
    exact absurd rfl h
theorem ari_ne {s : Txt} (h : 0 < ari (calO s)) : calO s ≠ 0 := by
  intro e
  rw [e] at h
  exact absurd h (by decide)

/-- Behind an expression this token. -/
def eat (t : Tk) : Option (E × List Tk) → Option (E × List Tk)
  | some (e, t' :: r) => if t' = t then some (e, r) else none
  | _ => none
theorem eat_some {t : Tk} {res : Option (E × List Tk)} {e : E} {r : List Tk} (h : eat t res = some (e, r)) : res = some (e, t :: r) := by
  unfold eat at h
  split at h
  · split at h
    · rename_i h1; cases h; rw [h1]
    · cases h
  · cases h
theorem eat_mk (t : Tk) (e : E) (r : List Tk) : eat t (some (e, t :: r)) = some (e, r) := by simp [eat]

/- places -/
def off : List Tk → Option (Int × List Tk)
  | .num v :: r => some (v, r)
  | .op k o :: .num v :: r => if k = 5 ∧ o = 9 then some (-v, r) else none
  | _ => none
def offs (back : Int) (l : List Tk) : Option (E × List Tk) :=
  match off l with
  | some (x, .rp :: r) => some (.leaf (lf 3 0 back 1 x 0), r)
  | some (x, .comma :: r) =>
    match off r with
    | some (y, .rp :: r2) => some (.leaf (lf 3 0 back 2 x y), r2)
    | _ => none
  | _ => none
def plc (q : Bool) (l : List Tk) : Option (E × List Tk) :=
  match l with
  | .lp :: r =>
    if q then
      match r with
      | .num v :: .comma :: r1 => if v = 0 then none else offs v r1
      | _ => none
    else offs 0 r
  | _ => none

/-- What may stand within a place's brackets. -/
def inP : Tk → Bool
  | .num _ => true
  | .op _ _ => true
  | .comma => true
  | _ => false

theorem off_split {l : List Tk} {x : Int} {r : List Tk} (h : off l = some (x, r)) : ∃ m, l = m ++ r ∧ m.all inP = true ∧ ∀ r', off (m ++ r') = some (x, r') := by
  unfold off at h
  split at h
  · rename_i v r0
    cases h
    exact ⟨[.num x], rfl, rfl, fun r' => rfl⟩
  · rename_i k o v r0
    split at h
    · rename_i hk
      cases h
      exact ⟨[.op k o, .num v], rfl, rfl, fun r' => by simp [off, hk]⟩
    · cases h
  · cases h
theorem offs_split {back : Int} {l : List Tk} {e : E} {r : List Tk} (h : offs back l = some (e, r)) : ∃ m, l = m ++ .rp :: r ∧ m.all inP = true ∧ (∃ n, e = .leaf n ∧ n.a = 0 ∧ n.b = 0 ∧ n.c = 0) ∧ ∀ r', offs back (m ++ .rp :: r') = some (e, r') := by
  unfold offs at h
  split at h
  · rename_i x r0 h1
    cases h
    obtain ⟨m, rfl, hm, hr⟩ := off_split h1
    exact ⟨m, rfl, hm, ⟨_, rfl, rfl, rfl, rfl⟩, fun r' => by unfold offs; rw [hr]⟩
  · rename_i x r0 h1
    split at h
    · rename_i y r2 h2
      cases h
      obtain ⟨m, rfl, hm, hr⟩ := off_split h1
      obtain ⟨m2, rfl, hm2, hr2⟩ := off_split h2
      refine ⟨m ++ .comma :: m2, by simp, by simp [inP] at *; exact ⟨hm, hm2⟩, ⟨_, rfl, rfl, rfl, rfl⟩, fun r' => ?_⟩
      unfold offs
      rw [List.append_assoc, hr]
      simp only [List.cons_append]
      rw [hr2]
    · cases h
  · cases h
theorem plc_split {q : Bool} {l : List Tk} {e : E} {r : List Tk} (h : plc q l = some (e, r)) : ∃ m, l = .lp :: m ++ .rp :: r ∧ m.all inP = true ∧ (∃ n, e = .leaf n ∧ n.a = 0 ∧ n.b = 0 ∧ n.c = 0) ∧ ∀ r', plc q (.lp :: m ++ .rp :: r') = some (e, r') := by
  unfold plc at h
  split at h
  · split at h
    · rename_i hq
      split at h
      · rename_i v r1
        split at h
        · cases h
        · rename_i hv
          obtain ⟨m, rfl, hm, hn, hr⟩ := offs_split h
          refine ⟨.num v :: .comma :: m, by simp, by simp [inP] at *; exact hm, hn, fun r' => ?_⟩
          simp only [plc, List.cons_append, hq, if_true, if_neg hv]
          exact hr r'
      · cases h
    · rename_i hq
      obtain ⟨m, rfl, hm, hn, hr⟩ := offs_split h
      refine ⟨m, by simp, hm, hn, fun r' => ?_⟩
      simp only [plc, List.cons_append, if_neg hq]
      exact hr r'
  · cases h

/- the grammar. The number: 0 a choice, k + 1 the level k, 8 a minus or a primary. -/
abbrev lefts (k : Nat) : Nat := if k = 3 then 5 else k + 1

inductive G (nm : List Txt) : Nat → List Tk → E → Prop
  | up {c : Nat} {l : List Tk} {e : E} : c < 8 → G nm (c + 1) l e → G nm c l e
  | sel {l1 l2 l3 : List Tk} {a b c : E} : G nm 1 l1 a → G nm 0 l2 b → G nm 0 l3 c → G nm 0 (l1 ++ .ques :: (l2 ++ .colon :: l3)) (.tri 28 a b c)
  | bin {k : Nat} {o : Int} {l1 l2 : List Tk} {a b : E} : k < 7 → G nm (lefts k) l1 a → G nm (k + 2) l2 b → G nm (k + 1) (l1 ++ .op k o :: l2) (.bin o a b)
  | neg {l : List Tk} {a : E} : G nm 8 l a → G nm 8 (.op 5 9 :: l) (.un 5 a)
  | par {l : List Tk} {e : E} : G nm 0 l e → G nm 8 (.lp :: (l ++ [.rp])) e
  | num (v : Int) : G nm 8 [.num v] (.leaf (lf 1 v 0 0 0 0))
  | word {s : Txt} {e : E} : s ≠ wP → s ≠ wQ → calO s = 0 → wd nm s = some e → G nm 8 [.word s] e
  | place {s : Txt} {l : List Tk} {e : E} : s = wP ∨ s = wQ → plc (s == wQ) l = some (e, []) → G nm 8 (.word s :: l) e
  | call1 {s : Txt} {l : List Tk} {a : E} : ari (calO s) = 1 → G nm 0 l a → G nm 8 (.word s :: .lp :: (l ++ [.rp])) (.un (calO s) a)
  | call2 {s : Txt} {l l2 : List Tk} {a b : E} : ari (calO s) = 2 → G nm 0 l a → G nm 0 l2 b → G nm 8 (.word s :: .lp :: (l ++ .comma :: (l2 ++ [.rp]))) (.bin (calO s) a b)
  | call3 {s : Txt} {l l2 l3 : List Tk} {a b c : E} : ari (calO s) = 3 → G nm 0 l a → G nm 0 l2 b → G nm 0 l3 c → G nm 8 (.word s :: .lp :: (l ++ .comma :: (l2 ++ .comma :: (l3 ++ [.rp])))) (.tri (calO s) a b c)

/- reading from the left -/
inductive NR where
  | at (c : Nat)
  | lp (k : Nat) (a : E)

/-- May a primary, or a minus, begin so? -/
def begins : List Tk → Bool
  | .num _ :: _ => true
  | .word _ :: _ => true
  | .lp :: _ => true
  | .op k o :: _ => decide (k = 5 ∧ o = 9)
  | _ => false

abbrev mapU (o : Int) (res : Option (E × List Tk)) : Option (E × List Tk) := res.map fun p => (.un o p.1, p.2)
abbrev mapB (o : Int) (a : E) (res : Option (E × List Tk)) : Option (E × List Tk) := res.map fun p => (.bin o a p.1, p.2)
abbrev mapT (o : Int) (a b : E) (res : Option (E × List Tk)) : Option (E × List Tk) := res.map fun p => (.tri o a b p.1, p.2)

inductive R (nm : List Txt) : NR → List Tk → Option (E × List Tk) → Prop
  | ch_none {l : List Tk} : R nm (.at 1) l none → R nm (.at 0) l none
  | ch_up {l r : List Tk} {a : E} : R nm (.at 1) l (some (a, r)) → r.head? ≠ some .ques → R nm (.at 0) l (some (a, r))
  | ch_no {l r : List Tk} {a : E} {res : Option (E × List Tk)} : R nm (.at 1) l (some (a, .ques :: r)) → R nm (.at 0) r res → eat .colon res = none → R nm (.at 0) l none
  | ch_sel {l r r2 : List Tk} {a b : E} {res res2 : Option (E × List Tk)} : R nm (.at 1) l (some (a, .ques :: r)) → R nm (.at 0) r res → eat .colon res = some (b, r2) → R nm (.at 0) r2 res2 → R nm (.at 0) l (mapT 28 a b res2)
  | lv_none {k : Nat} {l : List Tk} : k < 7 → R nm (.at (k + 2)) l none → R nm (.at (k + 1)) l none
  | lv_go {k : Nat} {l r : List Tk} {a : E} {res : Option (E × List Tk)} : k < 7 → R nm (.at (k + 2)) l (some (a, r)) → R nm (.lp k a) r res → R nm (.at (k + 1)) l res
  | lp_stop {k : Nat} {a : E} {r : List Tk} : (∀ o, r.head? ≠ some (.op k o)) → R nm (.lp k a) r (some (a, r))
  | lp_none {k : Nat} {a : E} {o : Int} {r : List Tk} : R nm (.at (k + 2)) r none → R nm (.lp k a) (.op k o :: r) none
  | lp_cmp {a b : E} {o : Int} {r r2 : List Tk} : R nm (.at 5) r (some (b, r2)) → R nm (.lp 3 a) (.op 3 o :: r) (some (.bin o a b, r2))
  | lp_go {k : Nat} {a b : E} {o : Int} {r r2 : List Tk} {res : Option (E × List Tk)} : k ≠ 3 → R nm (.at (k + 2)) r (some (b, r2)) → R nm (.lp k (.bin o a b)) r2 res → R nm (.lp k a) (.op k o :: r) res
  | neg {l : List Tk} {res : Option (E × List Tk)} : R nm (.at 8) l res → R nm (.at 8) (.op 5 9 :: l) (mapU 5 res)
  | par {l : List Tk} {res : Option (E × List Tk)} : R nm (.at 0) l res → R nm (.at 8) (.lp :: l) (eat .rp res)
  | num (v : Int) (l : List Tk) : R nm (.at 8) (.num v :: l) (some (.leaf (lf 1 v 0 0 0 0), l))
  | word {s : Txt} {l : List Tk} : s ≠ wP → s ≠ wQ → calO s = 0 → R nm (.at 8) (.word s :: l) ((wd nm s).map fun e => (e, l))
  | place {s : Txt} {l : List Tk} : s = wP ∨ s = wQ → R nm (.at 8) (.word s :: l) (plc (s == wQ) l)
  | callx {s : Txt} {l : List Tk} : calO s ≠ 0 → l.head? ≠ some .lp → R nm (.at 8) (.word s :: l) none
  | call1 {s : Txt} {l : List Tk} {res : Option (E × List Tk)} : ari (calO s) = 1 → R nm (.at 0) l res → R nm (.at 8) (.word s :: .lp :: l) (mapU (calO s) (eat .rp res))
  | calln {s : Txt} {l : List Tk} {res : Option (E × List Tk)} : 2 ≤ ari (calO s) → R nm (.at 0) l res → eat .comma res = none → R nm (.at 8) (.word s :: .lp :: l) none
  | call2 {s : Txt} {l r : List Tk} {a : E} {res res2 : Option (E × List Tk)} : ari (calO s) = 2 → R nm (.at 0) l res → eat .comma res = some (a, r) → R nm (.at 0) r res2 → R nm (.at 8) (.word s :: .lp :: l) (mapB (calO s) a (eat .rp res2))
  | call3n {s : Txt} {l r : List Tk} {a : E} {res res2 : Option (E × List Tk)} : ari (calO s) = 3 → R nm (.at 0) l res → eat .comma res = some (a, r) → R nm (.at 0) r res2 → eat .comma res2 = none → R nm (.at 8) (.word s :: .lp :: l) none
  | call3 {s : Txt} {l r r2 : List Tk} {a b : E} {res res2 res3 : Option (E × List Tk)} : ari (calO s) = 3 → R nm (.at 0) l res → eat .comma res = some (a, r) → R nm (.at 0) r res2 → eat .comma res2 = some (b, r2) → R nm (.at 0) r2 res3 → R nm (.at 8) (.word s :: .lp :: l) (mapT (calO s) a b (eat .rp res3))
  | bad {l : List Tk} : begins l = false → R nm (.at 8) l none

/-- What may not go on behind an expression. -/
def Fol (c : Nat) (r : List Tk) : Prop := ∀ t, r.head? = some t → (∀ k o, t = .op k o → k + 1 < c) ∧ (t = .ques → c ≠ 0)
theorem Fol.mono {c c' : Nat} {r : List Tk} (h : Fol c r) (hc : c ≤ c') : Fol c' r := fun t ht => ⟨fun k o e => Nat.lt_of_lt_of_le ((h t ht).1 k o e) hc, fun e => by have := (h t ht).2 e; omega⟩
theorem Fol.nil (c : Nat) : Fol c [] := fun t ht => by simp at ht
theorem Fol.cons {c : Nat} {t : Tk} (r : List Tk) (h1 : ∀ k o, t = .op k o → k + 1 < c) (h2 : t = .ques → c ≠ 0) : Fol c (t :: r) := fun t' ht => by
  simp at ht; subst ht; exact ⟨h1, h2⟩

theorem R.of_call {nm : List Txt} {s : Txt} (hs : calO s ≠ 0) : s ≠ wP ∧ s ≠ wQ := by
  constructor <;> (intro e; subst e; exact hs (by decide))

theorem complete {nm : List Txt} {c : Nat} {l : List Tk} {e : E} (h : G nm c l e) : (∀ r, Fol c r → R nm (.at c) (l ++ r) (some (e, r))) ∧
    (∀ k, c = k + 1 → k < 7 → k ≠ 3 → ∀ r res, Fol (k + 2) r → R nm (.lp k e) r res → R nm (.at (k + 1)) (l ++ r) res) := by
  induction h with
  | @up c l e hc hg ih =>
    have hB : ∀ k, c = k + 1 → k < 7 → ∀ r res, Fol (k + 2) r → R nm (.lp k e) r res → R nm (.at (k + 1)) (l ++ r) res := by
      rintro k rfl hk r res hf hr
      exact R.lv_go hk (ih.1 r hf) hr
    refine ⟨fun r hf => ?_, fun k hk h7 _ r res hf hr => hB k hk h7 r res hf hr⟩
    cases c with
    | zero => exact R.ch_up (ih.1 r (hf.mono (by omega))) (fun hq => (hf _ hq).2 rfl rfl)
    | succ k => exact hB k rfl (by omega) r _ (hf.mono (by omega)) (R.lp_stop fun o ho => by have := (hf _ ho).1 k o rfl; omega)
  | @sel l1 l2 l3 a b c h1 h2 h3 ih1 ih2 ih3 =>
    refine ⟨fun r hf => ?_, fun k hk => by omega⟩
    have e1 := ih1.1 (.ques :: (l2 ++ .colon :: (l3 ++ r))) (Fol.cons _ (by intro k o e; cases e) (by omega))
    have e2 := ih2.1 (.colon :: (l3 ++ r)) (Fol.cons _ (by intro k o e; cases e) (by intro e; cases e))
    have e3 := ih3.1 r hf
    have := R.ch_sel (nm := nm) e1 e2 (eat_mk _ _ _) e3
    simpa using this
  | @bin k o l1 l2 a b hk h1 h2 ih1 ih2 =>
    have hB : ∀ r, Fol (k + 2) r → ∀ res, k ≠ 3 → R nm (.lp k (.bin o a b)) r res → R nm (.at (k + 1)) (l1 ++ .op k o :: l2 ++ r) res := by
      intro r hf res h3 hr
      have hl : lefts k = k + 1 := by unfold lefts; rw [if_neg h3]
      have := ih1.2 k hl hk h3 (.op k o :: (l2 ++ r)) res (Fol.cons _ (by intro k' o' e; cases e; omega) (by intro e; cases e)) (R.lp_go h3 (ih2.1 r hf) hr)
      simpa using this
    refine ⟨fun r hf => ?_, fun k' hk' h7 h3 r res hf hr => ?_⟩
    · by_cases h3 : k = 3
      · subst h3
        have e1 := ih1.1 (.op 3 o :: (l2 ++ r)) (Fol.cons _ (by intro k' o' e; cases e; decide) (by intro e; cases e))
        have e2 := ih2.1 r (hf.mono (by omega))
        have := R.lv_go (k := 3) (by omega) e1 (R.lp_cmp (a := a) (o := o) e2)
        simpa using this
      · exact hB r (hf.mono (by omega)) _ h3 (R.lp_stop fun o ho => by have := (hf _ ho).1 k o rfl; omega)
    · obtain rfl : k = k' := by omega
      exact hB r hf res h3 hr
  | @neg l a h ih =>
    refine ⟨fun r hf => ?_, fun k hk => by omega⟩
    exact R.neg (ih.1 r hf)
  | @par l e h ih =>
    refine ⟨fun r hf => ?_, fun k hk => by omega⟩
    have e1 := ih.1 (.rp :: r) (Fol.cons _ (by intro k' o' e; cases e) (by intro e; cases e))
    have := R.par e1
    rw [eat_mk] at this
    simpa using this
  | num v => exact ⟨fun r hf => R.num v r, fun k hk => by omega⟩
  | @word s e h1 h2 h3 h4 =>
    refine ⟨fun r hf => ?_, fun k hk => by omega⟩
    have := R.word (nm := nm) (l := r) h1 h2 h3
    rw [h4] at this
    exact this
  | @place s l e h1 h2 =>
    refine ⟨fun r hf => ?_, fun k hk => by omega⟩
    obtain ⟨m, rfl, -, -, hr⟩ := plc_split h2
    have := R.place (nm := nm) (l := .lp :: m ++ .rp :: r) h1
    rw [hr] at this
    simpa using this
  | @call1 s l a h1 h2 ih =>
    refine ⟨fun r hf => ?_, fun k hk => by omega⟩
    have e1 := ih.1 (.rp :: r) (Fol.cons _ (by intro k' o' e; cases e) (by intro e; cases e))
    have := R.call1 h1 e1
    rw [eat_mk] at this
    simpa using this
  | @call2 s l l2 a b h1 h2 h3 ih ih2 =>
    refine ⟨fun r hf => ?_, fun k hk => by omega⟩
    have e1 := ih.1 (.comma :: (l2 ++ .rp :: r)) (Fol.cons _ (by intro k' o' e; cases e) (by intro e; cases e))
    have e2 := ih2.1 (.rp :: r) (Fol.cons _ (by intro k' o' e; cases e) (by intro e; cases e))
    have := R.call2 h1 e1 (eat_mk _ _ _) e2
    rw [eat_mk] at this
    simpa using this
  | @call3 s l l2 l3 a b c h1 h2 h3 h4 ih ih2 ih3 =>
    refine ⟨fun r hf => ?_, fun k hk => by omega⟩
    have e1 := ih.1 (.comma :: (l2 ++ .comma :: (l3 ++ .rp :: r))) (Fol.cons _ (by intro k' o' e; cases e) (by intro e; cases e))
    have e2 := ih2.1 (.comma :: (l3 ++ .rp :: r)) (Fol.cons _ (by intro k' o' e; cases e) (by intro e; cases e))
    have e3 := ih3.1 (.rp :: r) (Fol.cons _ (by intro k' o' e; cases e) (by intro e; cases e))
    have := R.call3 h1 e1 (eat_mk _ _ _) e2 (eat_mk _ _ _) e3
    rw [eat_mk] at this
    simpa using this

/-- What is read is of the grammar. -/
def SoundAt (nm : List Txt) : NR → List Tk → Option (E × List Tk) → Prop
  | .at c, l, res => ∀ e r, res = some (e, r) → ∃ p, l = p ++ r ∧ G nm c p e
  | .lp k a, l, res => k < 7 → ∀ l0, G nm (lefts k) l0 a → ∀ e r, res = some (e, r) → ∃ p, l = p ++ r ∧ G nm (k + 1) (l0 ++ p) e

theorem sound {nm : List Txt} {x : NR} {l : List Tk} {res : Option (E × List Tk)} (h : R nm x l res) : SoundAt nm x l res := by
  induction h with
  | ch_none h ih => intro e r he; cases he
  | ch_up h hq ih =>
    intro e r he
    obtain ⟨p, hp, hg⟩ := ih e r he
    exact ⟨p, hp, G.up (by omega) hg⟩
  | ch_no h1 h2 h3 ih1 ih2 => intro e r he; cases he
  | @ch_sel l r r2 a b res res2 h1 h2 h3 h4 ih1 ih2 ih4 =>
    intro e r3 he
    obtain ⟨p1, rfl, g1⟩ := ih1 a _ rfl
    rw [eat_some h3] at ih2
    obtain ⟨p2, rfl, g2⟩ := ih2 b _ rfl
    cases res2 with
    | none => cases he
    | some q =>
      obtain ⟨c, r4⟩ := q
      cases he
      obtain ⟨p3, rfl, g3⟩ := ih4 c _ rfl
      exact ⟨_, by simp, G.sel g1 g2 g3⟩
  | lv_none hk h ih => intro e r he; cases he
  | @lv_go k l r a res hk h1 h2 ih1 ih2 =>
    intro e r3 he
    obtain ⟨p1, rfl, g1⟩ := ih1 a _ rfl
    have hl : G nm (lefts k) p1 a := by
      unfold lefts
      split
      · rename_i h3; subst h3; exact g1
      · exact G.up (by omega) g1
    obtain ⟨p2, rfl, g2⟩ := ih2 hk p1 hl e r3 he
    exact ⟨p1 ++ p2, by simp, g2⟩
  | @lp_stop k a r h =>
    intro hk l0 hg e r3 he
    cases he
    refine ⟨[], rfl, ?_⟩
    rw [List.append_nil]
    unfold lefts at hg
    split at hg
    · rename_i h3; subst h3; exact G.up (by omega) hg
    · exact hg
  | lp_none h ih => intro hk l0 hg e r3 he; cases he
  | @lp_cmp a b o r r2 h ih =>
    intro hk l0 hg e r3 he
    cases he
    obtain ⟨p, rfl, g⟩ := ih b _ rfl
    exact ⟨.op 3 o :: p, rfl, G.bin (by omega) hg g⟩
  | @lp_go k a b o r r2 res h3 h1 h2 ih1 ih2 =>
    intro hk l0 hg e r3 he
    obtain ⟨p, rfl, g⟩ := ih1 b _ rfl
    have hl : lefts k = k + 1 := by unfold lefts; rw [if_neg h3]
    obtain ⟨p2, rfl, g2⟩ := ih2 hk (l0 ++ .op k o :: p) (by rw [hl]; exact G.bin hk hg g) e r3 he
    exact ⟨.op k o :: p ++ p2, by simp, by simpa using g2⟩
  | @neg l res h ih =>
    intro e r3 he
    cases res with
    | none => cases he
    | some q =>
      obtain ⟨a, r⟩ := q
      cases he
      obtain ⟨p, rfl, g⟩ := ih a _ rfl
      exact ⟨.op 5 9 :: p, rfl, G.neg g⟩
  | @par l res h ih =>
    intro e r3 he
    obtain ⟨p, rfl, g⟩ := ih e _ (eat_some he)
    exact ⟨.lp :: (p ++ [.rp]), by simp, G.par g⟩
  | num v l => intro e r3 he; cases he; exact ⟨[.num v], rfl, G.num v⟩
  | @word s l h1 h2 h3 =>
    intro e r3 he
    cases hw : wd nm s with
    | none => rw [hw] at he; cases he
    | some e' => rw [hw] at he; cases he; exact ⟨[.word s], rfl, G.word h1 h2 h3 hw⟩
  | @place s l h1 =>
    intro e r3 he
    obtain ⟨m, rfl, -, -, hr⟩ := plc_split he
    exact ⟨.word s :: (.lp :: m ++ [.rp]), by simp, G.place h1 (hr [])⟩
  | callx h1 h2 => intro e r3 he; cases he
  | @call1 s l res h1 h ih =>
    intro e r3 he
    cases hq : eat .rp res with
    | none => rw [hq] at he; cases he
    | some q =>
      obtain ⟨a, r⟩ := q
      rw [hq] at he
      cases he
      obtain ⟨p, rfl, g⟩ := ih a _ (eat_some hq)
      exact ⟨.word s :: .lp :: (p ++ [.rp]), by simp, G.call1 h1 g⟩
  | calln h1 h2 h3 ih => intro e r3 he; cases he
  | @call2 s l r a res res2 h1 h2 h3 h4 ih ih2 =>
    intro e r3 he
    cases hq : eat .rp res2 with
    | none => rw [hq] at he; cases he
    | some q =>
      obtain ⟨b, r4⟩ := q
      rw [hq] at he
      cases he
      obtain ⟨p, rfl, g⟩ := ih a _ (eat_some h3)
      obtain ⟨p2, rfl, g2⟩ := ih2 b _ (eat_some hq)
      exact ⟨.word s :: .lp :: (p ++ .comma :: (p2 ++ [.rp])), by simp, G.call2 h1 g g2⟩
  | call3n h1 h2 h3 h4 h5 ih ih2 => intro e r3 he; cases he
  | @call3 s l r r2 a b res res2 res3 h1 h2 h3 h4 h5 h6 ih ih2 ih3 =>
    intro e r3 he
    cases hq : eat .rp res3 with
    | none => rw [hq] at he; cases he
    | some q =>
      obtain ⟨c, r4⟩ := q
      rw [hq] at he
      cases he
      obtain ⟨p, rfl, g⟩ := ih a _ (eat_some h3)
      obtain ⟨p2, rfl, g2⟩ := ih2 b _ (eat_some h5)
      obtain ⟨p3, rfl, g3⟩ := ih3 c _ (eat_some hq)
      exact ⟨.word s :: .lp :: (p ++ .comma :: (p2 ++ .comma :: (p3 ++ [.rp]))), by simp, G.call3 h1 g g2 g3⟩
  | bad h => intro e r3 he; cases he

end Pz

/-
  What holds of the tokens of a text, as plain lists of bytes.
-/
namespace Lx
set_option linter.unusedVariables false

/- what stands between tokens -/

/-- The bytes of a gap, read from a state (inside a remark or not); none: a byte that may not stand there. -/
def gp : Bool → List UInt8 → Option Bool
  | r, [] => some r
  | r, c :: t => if ((r || c == 35) && c != 10) = false ∧ bl c = false then none else gp ((r || c == 35) && c != 10) t

theorem gp_append : ∀ (a b : List UInt8) (r : Bool), gp r (a ++ b) = (gp r a).bind fun q => gp q b
  | [], b, r => rfl
  | c :: a, b, r => by
    rw [List.cons_append, gp, gp]
    split
    · rfl
    · exact gp_append a b _
theorem gp_blank {c : UInt8} (h : bl c = true) (t : List UInt8) : gp false (c :: t) = gp false t := by
  have h35 : (c == 35) = false := by
    cases h' : (c == 35)
    · rfl
    · simp only [beq_iff_eq] at h'; subst h'; exact absurd h (by decide)
  rw [gp, if_neg (by simp [h])]
  simp [h35]
theorem gp_rem : ∀ (x : List UInt8), x.all nl = true → gp true x = some true
  | [], _ => rfl
  | c :: x, h => by
    simp only [List.all_cons, Bool.and_eq_true] at h
    have hc : (c != 10) = true := h.1
    rw [gp, if_neg (by simp [hc])]
    simp only [Bool.true_or, Bool.true_and, hc]
    exact gp_rem x h.2
theorem gp_remark {x : List UInt8} (h : x.all nl = true) : gp false (35 :: x) = some true := by
  rw [gp, if_neg (by decide)]
  exact gp_rem x h
theorem gp_line {x : List UInt8} (h : x.all nl = true) : gp false (35 :: (x ++ [10])) = some false := by
  have : gp false ((35 :: x) ++ [10]) = some false := by
    rw [gp_append, gp_remark h]
    rfl
  exact this

/-- Tokens stand in a text at their places, and between them what is passed over. -/
def Cov : List UInt8 → Nat → List Tok → Prop
  | l, p, [] => ∃ r, gp false l = some r
  | l, p, t :: T => ∃ g rest, l = g ++ (t.text ++ rest) ∧ t.pos = p + g.length ∧ gp false g = some false ∧ Fm t.kind t.text ∧ may t.kind t.text = true ∧ Cov rest (t.pos + t.text.length) T

theorem Cov.ahead {g0 r : List UInt8} {p : Nat} {T : List Tok} (h0 : gp false g0 = some false) (h : Cov r (p + g0.length) T) : Cov (g0 ++ r) p T := by
  cases T with
  | nil =>
    obtain ⟨q, hq⟩ := h
    exact ⟨q, by rw [gp_append, h0]; exact hq⟩
  | cons t T =>
    obtain ⟨g, rest, rfl, hp, hg, hf, hm, hc⟩ := h
    exact ⟨g0 ++ g, rest, by simp, by rw [hp, List.length_append]; omega, by rw [gp_append, h0]; exact hg, hf, hm, hc⟩

theorem cov_of : ∀ (n : Nat) (l : List UInt8) (p : Nat) (T : List Tok), l.length ≤ n → sc l p = some T → Cov l p T := by
  intro n
  induction n with
  | zero =>
    intro l p T hl h
    have : l = [] := List.eq_nil_of_length_eq_zero (by omega)
    subst this
    rw [sc_nil] at h
    cases h
    exact ⟨false, rfl⟩
  | succ n ih =>
    intro l p T hl h
    cases l with
    | nil =>
      rw [sc_nil] at h
      cases h
      exact ⟨false, rfl⟩
    | cons c r =>
      have hr : r.length ≤ n := by simpa using hl
      by_cases hb : bl c = true
      · rw [sc_blank hb] at h
        exact Cov.ahead (g0 := [c]) (by rw [gp_blank hb]; rfl) (ih r _ T hr h)
      · simp only [Bool.not_eq_true] at hb
        by_cases h35 : c = 35
        · subst h35
          rw [sc_rem] at h
          have ha := takeWhile_all nl r
          have hs := takeWhile_split nl r
          cases hd : r.dropWhile nl with
          | nil =>
            rw [hd, sc_nil] at h
            cases h
            rw [hd, List.append_nil] at hs
            rw [hs] at ha
            exact ⟨true, gp_remark ha⟩
          | cons d t =>
            have hd10 : d = 10 := by
              have := List.head?_dropWhile_not nl r
              rw [hd] at this
              simpa [nl] using this
            subst hd10
            rw [hd, sc_blank (by decide)] at h
            have hlen : t.length ≤ n := by
              have := dropWhile_le nl r
              rw [hd] at this
              simp at this
              omega
            have hc := ih t _ T hlen h
            have e : 35 :: r = (35 :: (r.takeWhile nl ++ [10])) ++ t := by
              rw [hd] at hs
              simp [hs]
            rw [e]
            refine Cov.ahead (gp_line ha) ?_
            have e2 : p + 1 + rn nl r + 1 = p + (35 :: (r.takeWhile nl ++ [10])).length := by
              simp [rn]; omega
            rw [← e2]
            exact hc
        · cases hg : gd (c :: r) with
          | false => rw [sc_bad hb h35 hg] at h; cases h
          | true =>
            have hp := gd_pos hg
            have hf := form_of_good (by simp) hg
            rw [sc_tok hb h35 hg] at h
            cases h1 : sc ((c :: r).drop (sz (c :: r))) (p + sz (c :: r)) with
            | none => rw [h1] at h; cases h
            | some T' =>
              rw [h1] at h
              simp only [Option.map_some, Option.some.injEq] at h
              subst h
              have hne : (c :: r).take (sz (c :: r)) ≠ [] := hf.1.1
              refine ⟨[], (c :: r).drop (sz (c :: r)), by simp, rfl, rfl, hf.1, hf.2, ?_⟩
              have hcov := ih _ _ T' (by rw [List.length_drop]; simp at hl ⊢; omega) h1
              have hl2 : (List.take (sz (c :: r)) (c :: r)).length = sz (c :: r) ∨ (List.drop (sz (c :: r)) (c :: r)) = [] := by
                rcases Nat.le_total (sz (c :: r)) (c :: r).length with h | h
                · left; rw [List.length_take]; omega
                · right; exact List.drop_of_length_le h
              rcases hl2 with hl2 | hl2
              · show Cov _ (p + (List.take (sz (c :: r)) (c :: r)).length) T'
                rw [hl2]
                exact hcov
              · rw [hl2, sc_nil] at h1
                cases h1
                rw [hl2]
                exact ⟨false, rfl⟩

/- a foreign byte -/

/-- A byte that a token, or what is passed over but remarks, may have. -/
def nat (c : UInt8) : Bool := bl c || W c || sh.contains c || c == 33

theorem form_nat {k : Int} {x : List UInt8} (h : Fm k x) : ∀ b ∈ x, nat b = true := by
  intro b hb
  obtain ⟨-, h⟩ := h
  rcases h with ⟨-, h⟩ | ⟨-, -, h⟩ | ⟨-, h | ⟨c, hc, rfl⟩⟩
  · have h1 := List.all_eq_true.1 h b hb
    have : W b = true := by simp [W, wi, show dg b.toNat = true from h1]
    simp [nat, this]
  · have h1 := List.all_eq_true.1 h b hb
    simp [nat, h1]
  · rcases contains_two h with h | h | h | h | h | h <;> subst h <;> revert b <;> decide
  · simp at hb
    subst hb
    have : sh.contains b = true := hc
    simp only [nat, this, Bool.or_true, Bool.true_or]

theorem gp_nat : ∀ (g : List UInt8) (r : Bool), 35 ∉ g → gp false g = some r → ∀ b ∈ g, bl b = true
  | [], _, _, _ => by simp
  | c :: g, r, h35, h => by
    have hc : (c == 35) = false := by
      simp at h35 ⊢
      exact fun e => h35.1 e.symm
    rw [gp] at h
    simp only [hc, Bool.false_or, Bool.false_and, true_and] at h
    cases hb : bl c with
    | false => rw [if_pos (by simp [hb])] at h; cases h
    | true =>
      rw [if_neg (by simp [hb])] at h
      intro b hb'
      rcases List.mem_cons.1 hb' with rfl | hb'
      · exact hb
      · exact gp_nat g r (fun e => h35 (List.mem_cons_of_mem _ e)) h b hb'

theorem cov_nat : ∀ (T : List Tok) (l : List UInt8) (p : Nat), 35 ∉ l → Cov l p T → ∀ b ∈ l, nat b = true
  | [], l, p, h35, ⟨r, h⟩ => fun b hb => by simp [nat, gp_nat l r h35 h b hb]
  | t :: T, l, p, h35, ⟨g, rest, e, hp, hg, hf, hm, hc⟩ => by
    subst e
    intro b hb
    rcases List.mem_append.1 hb with hb | hb
    · simp [nat, gp_nat g false (fun e => h35 (List.mem_append_left _ e)) hg b hb]
    · rcases List.mem_append.1 hb with hb | hb
      · exact form_nat hf b hb
      · exact cov_nat T rest _ (fun e => h35 (List.mem_append_right _ (List.mem_append_right _ e))) hc b hb

/-- A text with a foreign byte, and without a remark, has no tokens. -/
theorem tks_foreign {l : List UInt8} {c : UInt8} (h35 : 35 ∉ l) (hc : c ∈ l) (hn : nat c = false) : tks l = none := by
  unfold tks
  split
  · rfl
  · cases h : sc l 0 with
    | none => rfl
    | some T =>
      have := cov_nat T l 0 h35 (cov_of _ l 0 T (Nat.le_refl _) h) c hc
      rw [hn] at this
      cases this

/- tokens told again -/

/-- What may be written between tokens. -/
def btw : List UInt8 → Prop := fun b => b = [32] ∨ b = [9, 10, 32] ∨ b = [32, 35, 32, 255, 32, 97, 32, 60, 32, 98, 10]

theorem sc_btw {b : List UInt8} (hb : btw b) (l : List UInt8) (p : Nat) : sc (b ++ l) p = sc l (p + b.length) := by
  rcases hb with rfl | rfl | rfl
  · exact sc_blank (by decide) l p
  · show sc (9 :: 10 :: 32 :: l) p = _
    rw [sc_blank (by decide), sc_blank (by decide), sc_blank (by decide)]
    rfl
  · show sc (32 :: 35 :: 32 :: 255 :: 32 :: 97 :: 32 :: 60 :: 32 :: 98 :: 10 :: l) p = _
    rw [sc_blank (by decide), sc_rem]
    have e1 : (32 :: 255 :: 32 :: 97 :: 32 :: 60 :: 32 :: 98 :: 10 :: l : List UInt8).dropWhile nl = 10 :: l := by
      simp [List.dropWhile_cons, nl]
    have e2 : rn nl (32 :: 255 :: 32 :: 97 :: 32 :: 60 :: 32 :: 98 :: 10 :: l) = 8 := by
      simp [rn, List.takeWhile_cons, nl]
    rw [e1, e2, sc_blank (by decide)]
    rfl

theorem btw_sep {b : List UInt8} (hb : btw b) (l : List UInt8) : Sep (b ++ l) := by
  rcases hb with rfl | rfl | rfl
  · exact .inr ⟨_, .inl rfl⟩
  · exact .inr ⟨_, .inr rfl⟩
  · exact .inr ⟨_, .inl rfl⟩

/-- Tokens told with something between them: pieces (what stands ahead, the token). -/
def glue : List (List UInt8 × Tok) → List UInt8
  | [] => []
  | (b, t) :: r => b ++ (t.text ++ glue r)

theorem glue_sep (L : List (List UInt8 × Tok)) (h : ∀ q ∈ L, btw q.1) : Sep (glue L) := by
  cases L with
  | nil => exact .inl rfl
  | cons q L => exact btw_sep (h q (List.mem_cons_self ..)) _

theorem sc_glue : ∀ (L : List (List UInt8 × Tok)) (p : Nat), (∀ q ∈ L, btw q.1 ∧ Fm q.2.kind q.2.text ∧ may q.2.kind q.2.text = true) →
    ∃ T, sc (glue L) p = some T ∧ T.length = L.length ∧ ∀ i, i < L.length → (T.getD i ⟨0, [], 0⟩).kind = (L.getD i ([], ⟨0, [], 0⟩)).2.kind ∧ (T.getD i ⟨0, [], 0⟩).text = (L.getD i ([], ⟨0, [], 0⟩)).2.text
  | [], p, _ => ⟨[], by rw [glue, sc_nil], rfl, by simp⟩
  | (b, t) :: L, p, h => by
    obtain ⟨hb, hf, hm⟩ := h (b, t) (List.mem_cons_self ..)
    have hL : ∀ q ∈ L, btw q.1 ∧ Fm q.2.kind q.2.text ∧ may q.2.kind q.2.text = true := fun q hq => h q (List.mem_cons_of_mem _ hq)
    obtain ⟨T, hT, hl, hi⟩ := sc_glue L (p + b.length + t.text.length) hL
    obtain ⟨c, x, hx, hbl, h35, hk, hz⟩ := again hf (glue_sep L fun q hq => (hL q hq).1)
    have htake : (t.text ++ glue L).take t.text.length = t.text := List.take_left
    have hdrop : (t.text ++ glue L).drop t.text.length = glue L := List.drop_left
    have hg : gd (t.text ++ glue L) = true := by
      unfold gd
      rw [hk, hz, htake]
      exact hm
    have hs : sc (glue ((b, t) :: L)) p = some (⟨t.kind, t.text, p + b.length⟩ :: T) := by
      rw [glue, sc_btw hb]
      have e : t.text ++ glue L = c :: (x ++ glue L) := by rw [hx]; rfl
      have h1 := sc_tok (c := c) (r := x ++ glue L) hbl h35 (by rw [← e]; exact hg) (p + b.length)
      rw [← e, hz, hk, htake, hdrop, hT] at h1
      rw [h1]
      rfl
    refine ⟨_, hs, by simp [hl], ?_⟩
    intro i hi'
    cases i with
    | zero => exact ⟨rfl, rfl⟩
    | succ i => exact hi i (by simpa using hi')

theorem cov_good : ∀ (T : List Tok) (l : List UInt8) (p : Nat), Cov l p T → ∀ t ∈ T, Fm t.kind t.text ∧ may t.kind t.text = true
  | [], _, _, _ => by simp
  | t :: T, l, p, ⟨g, rest, e, hp, hg, hf, hm, hc⟩ => by
    intro q hq
    rcases List.mem_cons.1 hq with rfl | hq
    · exact ⟨hf, hm⟩
    · exact cov_good T rest _ hc q hq

theorem tks_cov {l : List UInt8} {T : List Tok} (h : tks l = some T) : Cov l 0 T ∧ l.length ≤ 1024 := by
  unfold tks at h
  split at h
  · cases h
  · exact ⟨cov_of _ l 0 T (Nat.le_refl _) h, by omega⟩

end Lx

/-
  A reader from the left comes to one answer; whole programs; tokens of texts.
-/
namespace Pz
open Lx
set_option linter.unusedVariables false

theorem no_some {α : Type} {a : α} {p : Prop} (h : none = some a) : p := by cases h
theorem so_none {α : Type} {a : α} {p : Prop} (h : some a = none) : p := by cases h
theorem begins_bad {l : List Tk} {p : Prop} (h : begins l = false) (h2 : begins l = true) : p := by rw [h] at h2; cases h2

theorem ari_ne1 {s : Txt} {n : Nat} (h : ari (calO s) = n) (hn : 1 ≤ n) : calO s ≠ 0 := ari_ne (by omega)
theorem ari_ne2 {s : Txt} (h : 2 ≤ ari (calO s)) : calO s ≠ 0 := ari_ne (by omega)

theorem det {nm : List Txt} {x : NR} {l : List Tk} {r1 : Option (E × List Tk)} (h : R nm x l r1) : ∀ r2, R nm x l r2 → r1 = r2 := by
  induction h with
  | ch_none h ih =>
    intro r2 h2
    cases h2 with
    | ch_none h1 => rfl
    | ch_up h1 _ => exact no_some (ih _ h1)
    | ch_no h1 _ _ => exact no_some (ih _ h1)
    | ch_sel h1 _ _ _ => exact no_some (ih _ h1)
  | ch_up h hq ih =>
    intro r2 h2
    cases h2 with
    | ch_none h1 => exact so_none (ih _ h1)
    | ch_up h1 _ => exact ih _ h1
    | ch_no h1 _ _ => have := ih _ h1; cases this; exact absurd rfl hq
    | ch_sel h1 _ _ _ => have := ih _ h1; cases this; exact absurd rfl hq
  | ch_no h1 h2 h3 ih1 ih2 =>
    intro r2 h
    cases h with
    | ch_none g1 => rfl
    | ch_up g1 hq => have := ih1 _ g1; cases this; exact absurd rfl hq
    | ch_no g1 _ _ => rfl
    | ch_sel g1 g2 g3 _ => have := ih1 _ g1; cases this; have := ih2 _ g2; subst this; rw [h3] at g3; cases g3
  | ch_sel h1 h2 h3 h4 ih1 ih2 ih4 =>
    intro r2 h
    cases h with
    | ch_none g1 => exact so_none (ih1 _ g1)
    | ch_up g1 hq => have := ih1 _ g1; cases this; exact absurd rfl hq
    | ch_no g1 g2 g3 => have := ih1 _ g1; cases this; have := ih2 _ g2; subst this; rw [h3] at g3; cases g3
    | ch_sel g1 g2 g3 g4 => have := ih1 _ g1; cases this; have := ih2 _ g2; subst this; rw [h3] at g3; cases g3; rw [ih4 _ g4]
  | lv_none hk h ih =>
    intro r2 h2
    cases h2 with
    | lv_none _ g => rfl
    | lv_go _ g _ => exact no_some (ih _ g)
    | _ => omega
  | lv_go hk h1 h2 ih1 ih2 =>
    intro r2 h
    cases h with
    | lv_none _ g => exact so_none (ih1 _ g)
    | lv_go _ g g2 => have := ih1 _ g; cases this; exact ih2 _ g2
    | _ => omega
  | lp_stop h =>
    intro r2 h2
    cases h2 with
    | lp_stop _ => rfl
    | lp_none _ => exact absurd rfl (h _)
    | lp_cmp _ => exact absurd rfl (h _)
    | lp_go _ _ _ => exact absurd rfl (h _)
  | lp_none h ih =>
    intro r2 h2
    cases h2 with
    | lp_stop g => exact absurd rfl (g _)
    | lp_none _ => rfl
    | lp_cmp g => exact no_some (ih _ g)
    | lp_go _ g _ => exact no_some (ih _ g)
  | lp_cmp h ih =>
    intro r2 h2
    cases h2 with
    | lp_stop g => exact absurd rfl (g _)
    | lp_none g => exact so_none (ih _ g)
    | lp_cmp g => have := ih _ g; cases this; rfl
    | lp_go g _ _ => exact absurd rfl g
  | lp_go h3 h1 h2 ih1 ih2 =>
    intro r2 h
    cases h with
    | lp_stop g => exact absurd rfl (g _)
    | lp_none g => exact so_none (ih1 _ g)
    | lp_cmp g => exact absurd rfl h3
    | lp_go _ g g2 => have := ih1 _ g; cases this; exact ih2 _ g2
  | neg h ih =>
    intro r2 h2
    cases h2 with
    | neg g => rw [ih _ g]
    | lv_none g _ => omega
    | lv_go g _ _ => omega
    | bad g => exact begins_bad g rfl
  | par h ih =>
    intro r2 h2
    cases h2 with
    | par g => rw [ih _ g]
    | lv_none g _ => omega
    | lv_go g _ _ => omega
    | bad g => exact begins_bad g rfl
  | num v l =>
    intro r2 h2
    cases h2 with
    | num _ _ => rfl
    | lv_none g _ => omega
    | lv_go g _ _ => omega
    | bad g => exact begins_bad g rfl
  | word h1 h2 h3 =>
    intro r2 h
    cases h with
    | word _ _ _ => rfl
    | place g => rcases g with g | g <;> contradiction
    | callx g _ => contradiction
    | call1 g _ => exact absurd h3 (ari_ne (by omega))
    | calln g _ _ => exact absurd h3 (ari_ne (by omega))
    | call2 g _ _ _ => exact absurd h3 (ari_ne (by omega))
    | call3n g _ _ _ _ => exact absurd h3 (ari_ne (by omega))
    | call3 g _ _ _ _ _ => exact absurd h3 (ari_ne (by omega))
    | lv_none g _ => omega
    | lv_go g _ _ => omega
    | bad g => exact begins_bad g rfl
  | place h1 =>
    intro r2 h
    have hc : ∀ {s : Txt}, s = wP ∨ s = wQ → calO s = 0 := by rintro s (rfl | rfl) <;> decide
    cases h with
    | word g1 g2 _ => rcases h1 with h1 | h1 <;> contradiction
    | place g => rfl
    | callx g _ => exact absurd (hc h1) g
    | call1 g _ => exact absurd (hc h1) (ari_ne (by omega))
    | calln g _ _ => exact absurd (hc h1) (ari_ne (by omega))
    | call2 g _ _ _ => exact absurd (hc h1) (ari_ne (by omega))
    | call3n g _ _ _ _ => exact absurd (hc h1) (ari_ne (by omega))
    | call3 g _ _ _ _ _ => exact absurd (hc h1) (ari_ne (by omega))
    | lv_none g _ => omega
    | lv_go g _ _ => omega
    | bad g => exact begins_bad g rfl
  | callx h1 h2 =>
    intro r2 h
    cases h with
    | word _ _ g => contradiction
    | place g => rcases g with g | g <;> (subst g; exact absurd (by decide) h1)
    | callx g _ => rfl
    | call1 g _ => exact absurd rfl h2
    | calln g _ _ => exact absurd rfl h2
    | call2 g _ _ _ => exact absurd rfl h2
    | call3n g _ _ _ _ => exact absurd rfl h2
    | call3 g _ _ _ _ _ => exact absurd rfl h2
    | lv_none g _ => omega
    | lv_go g _ _ => omega
    | bad g => rfl
  | call1 ha h1 ih =>
    intro r2 h
    have hc := ari_ne1 ha (by omega)
    cases h with
    | word _ _ g => contradiction
    | place g => rcases g with g | g <;> (subst g; exact absurd (by decide) hc)
    | callx g h2 => exact absurd rfl h2
    | call1 g g1 => rw [ih _ g1]
    | calln g _ _ => omega
    | call2 g _ _ _ => omega
    | call3n g _ _ _ _ => omega
    | call3 g _ _ _ _ _ => omega
    | lv_none g _ => omega
    | lv_go g _ _ => omega
    | bad g => exact begins_bad g rfl
  | calln ha h1 he ih =>
    intro r2 h
    have hc := ari_ne2 ha
    cases h with
    | word _ _ g => contradiction
    | place g => rcases g with g | g <;> (subst g; exact absurd (by decide) hc)
    | callx g h2 => exact absurd rfl h2
    | call1 g g1 => omega
    | calln g _ _ => rfl
    | call2 g g1 g2 _ => have := ih _ g1; subst this; rw [he] at g2; cases g2
    | call3n g g1 g2 _ _ => rfl
    | call3 g g1 g2 _ _ _ => have := ih _ g1; subst this; rw [he] at g2; cases g2
    | lv_none g _ => omega
    | lv_go g _ _ => omega
    | bad g => rfl
  | call2 ha h1 he h2 ih ih2 =>
    intro r2 h
    have hc := ari_ne1 ha (by omega)
    cases h with
    | word _ _ g => contradiction
    | place g => rcases g with g | g <;> (subst g; exact absurd (by decide) hc)
    | callx g h2 => exact absurd rfl h2
    | call1 g g1 => omega
    | calln g g1 g2 => have := ih _ g1; subst this; rw [he] at g2; cases g2
    | call2 g g1 g2 g3 => have := ih _ g1; subst this; rw [he] at g2; cases g2; rw [ih2 _ g3]
    | call3n g g1 g2 _ _ => omega
    | call3 g g1 g2 _ _ _ => omega
    | lv_none g _ => omega
    | lv_go g _ _ => omega
    | bad g => exact begins_bad g rfl
  | call3n ha h1 he h2 he2 ih ih2 =>
    intro r2 h
    have hc := ari_ne1 ha (by omega)
    cases h with
    | word _ _ g => contradiction
    | place g => rcases g with g | g <;> (subst g; exact absurd (by decide) hc)
    | callx g h2 => exact absurd rfl h2
    | call1 g g1 => omega
    | calln g g1 g2 => rfl
    | call2 g g1 g2 g3 => omega
    | call3n g g1 g2 _ _ => rfl
    | call3 g g1 g2 g3 g4 _ => have := ih _ g1; subst this; rw [he] at g2; cases g2; have := ih2 _ g3; subst this; rw [he2] at g4; cases g4
    | lv_none g _ => omega
    | lv_go g _ _ => omega
    | bad g => rfl
  | call3 ha h1 he h2 he2 h3 ih ih2 ih3 =>
    intro r2 h
    have hc := ari_ne1 ha (by omega)
    cases h with
    | word _ _ g => contradiction
    | place g => rcases g with g | g <;> (subst g; exact absurd (by decide) hc)
    | callx g h2 => exact absurd rfl h2
    | call1 g g1 => omega
    | calln g g1 g2 => have := ih _ g1; subst this; rw [he] at g2; cases g2
    | call2 g g1 g2 g3 => omega
    | call3n g g1 g2 g3 g4 => have := ih _ g1; subst this; rw [he] at g2; cases g2; have := ih2 _ g3; subst this; rw [he2] at g4; cases g4
    | call3 g g1 g2 g3 g4 g5 => have := ih _ g1; subst this; rw [he] at g2; cases g2; have := ih2 _ g3; subst this; rw [he2] at g4; cases g4; rw [ih3 _ g5]
    | lv_none g _ => omega
    | lv_go g _ _ => omega
    | bad g => exact begins_bad g rfl
  | bad hb =>
    intro r2 h
    cases h with
    | bad g => rfl
    | callx _ _ => rfl
    | calln _ _ _ => rfl
    | call3n _ _ _ _ _ => rfl
    | lv_none g _ => omega
    | lv_go g _ _ => omega
    | _ => exact begins_bad hb rfl

/-- What a choice is read as. -/
theorem read_iff {nm : List Txt} {l : List Tk} {res : Option (E × List Tk)} (h : R nm (.at 0) l res) (e : E) : res = some (e, []) ↔ G nm 0 l e := by
  constructor
  · intro he
    obtain ⟨p, hp, hg⟩ := sound h e [] he
    rw [List.append_nil] at hp
    rw [hp]; exact hg
  · intro hg
    have := (complete hg).1 [] (Fol.nil 0)
    rw [List.append_nil] at this
    exact det h _ this

/- what no expression holds -/
def Nok (nm : List Txt) : Prop := ∀ s ∈ nm, resv s = false
def plain : Tk → Bool
  | .semi => false
  | .eq => false
  | .word s => s != wLet
  | _ => true
theorem inP_plain {t : Tk} (h : inP t = true) : plain t = true := by cases t <;> simp_all [inP, plain]
theorem call_ne {s : Txt} (h : 0 < ari (calO s)) : (s != wLet) = true := by
  have := ari_ne h
  simp only [bne_iff_ne, ne_eq]
  intro e
  subst e
  exact this (by decide)
theorem g_plain {nm : List Txt} (hn : Nok nm) {c : Nat} {l : List Tk} {e : E} (h : G nm c l e) : l.all plain = true ∧ l ≠ [] := by
  induction h with
  | up _ _ ih => exact ih
  | sel _ _ _ ih1 ih2 ih3 => simp [ih1.1, ih2.1, ih3.1, plain]
  | bin _ _ _ ih1 ih2 => simp [ih1.1, ih2.1, plain]
  | neg _ ih => simp [ih.1, plain]
  | par _ ih => simp [ih.1, plain]
  | num v => simp [plain]
  | @word s e h1 h2 h3 h4 =>
    simp only [List.all_cons, List.all_nil, Bool.and_true, plain, bne_iff_ne, ne_eq, reduceCtorEq, not_false_eq_true, and_true]
    intro he
    subst he
    have : nm.contains wLet = true := by
      unfold wd at h4
      rw [if_neg (by decide)] at h4
      split at h4
      · assumption
      · cases h4
    have := hn wLet (by simpa using this)
    exact absurd this (by decide)
  | @place s l e h1 h2 =>
    obtain ⟨m, rfl, hm, -, -⟩ := plc_split h2
    have : m.all plain = true := by
      rw [List.all_eq_true] at hm ⊢
      exact fun t ht => inP_plain (hm t ht)
    have h3 : (s != wLet) = true := by rcases h1 with rfl | rfl <;> decide
    simp [this, plain, h3]
  | call1 ha _ ih => simp [ih.1, plain, (by simpa using call_ne (show 0 < ari (calO _) by rw [ha]; decide) : ¬ _ = wLet)]
  | call2 ha _ _ ih ih2 => simp [ih.1, ih2.1, plain, (by simpa using call_ne (show 0 < ari (calO _) by rw [ha]; decide) : ¬ _ = wLet)]
  | call3 ha _ _ _ ih ih2 ih3 => simp [ih.1, ih2.1, ih3.1, plain, (by simpa using call_ne (show 0 < ari (calO _) by rw [ha]; decide) : ¬ _ = wLet)]

/- whole programs -/
abbrev Out := List Txt × List E × E
def hdr (nm : List Txt) : List Tk → Option (Txt × List Tk)
  | .word s :: .eq :: r => if resv s || nm.contains s then none else some (s, r)
  | _ => none
def fin (nm : List Txt) (es : List E) : Option (E × List Tk) → Option Out
  | some (e, []) => some (nm, es, e)
  | _ => none

inductive GP : List Txt → List E → List Tk → Out → Prop
  | last {nm : List Txt} {es : List E} {l : List Tk} {e : E} : G nm 0 l e → GP nm es l (nm, es, e)
  | bind {nm : List Txt} {es : List E} {s : Txt} {l1 l2 : List Tk} {e : E} {o : Out} : resv s = false → nm.contains s = false → G nm 0 l1 e → GP (nm ++ [s]) (es ++ [e]) l2 o → GP nm es (.word wLet :: .word s :: .eq :: (l1 ++ .semi :: l2)) o

inductive RP : List Txt → List E → List Tk → Option Out → Prop
  | last {nm : List Txt} {es : List E} {l : List Tk} {res : Option (E × List Tk)} : l.head? ≠ some (.word wLet) → R nm (.at 0) l res → RP nm es l (fin nm es res)
  | bad {nm : List Txt} {es : List E} {l : List Tk} : hdr nm l = none → RP nm es (.word wLet :: l) none
  | body {nm : List Txt} {es : List E} {s : Txt} {l l2 : List Tk} {res : Option (E × List Tk)} : hdr nm l = some (s, l2) → R nm (.at 0) l2 res → eat .semi res = none → RP nm es (.word wLet :: l) none
  | go {nm : List Txt} {es : List E} {s : Txt} {l l2 r : List Tk} {e : E} {res : Option (E × List Tk)} {o : Option Out} : hdr nm l = some (s, l2) → R nm (.at 0) l2 res → eat .semi res = some (e, r) → RP (nm ++ [s]) (es ++ [e]) r o → RP nm es (.word wLet :: l) o

theorem hdr_some {nm : List Txt} {l l2 : List Tk} {s : Txt} (h : hdr nm l = some (s, l2)) : l = .word s :: .eq :: l2 ∧ resv s = false ∧ nm.contains s = false := by
  unfold hdr at h
  split at h
  · split at h
    · cases h
    · rename_i hr
      cases h
      simp only [Bool.or_eq_true, not_or, Bool.not_eq_true] at hr
      exact ⟨rfl, hr.1, hr.2⟩
  · cases h
theorem hdr_mk {nm : List Txt} {s : Txt} (h1 : resv s = false) (h2 : nm.contains s = false) (l : List Tk) : hdr nm (.word s :: .eq :: l) = some (s, l) := by
  simp only [hdr, h1, h2, Bool.or_self, Bool.false_eq_true, if_false]
theorem fin_some {nm : List Txt} {es : List E} {res : Option (E × List Tk)} {o : Out} (h : fin nm es res = some o) : ∃ e, res = some (e, []) ∧ o = (nm, es, e) := by
  unfold fin at h
  split at h
  · cases h; exact ⟨_, rfl, rfl⟩
  · cases h
theorem Nok.snoc {nm : List Txt} {s : Txt} (h : Nok nm) (hs : resv s = false) : Nok (nm ++ [s]) := by
  intro t ht
  rw [List.mem_append] at ht
  rcases ht with ht | ht
  · exact h t ht
  · simp at ht; rw [ht]; exact hs

theorem prog_iff {nm : List Txt} {es : List E} {l : List Tk} {res : Option Out} (h : RP nm es l res) : Nok nm → ∀ o, (res = some o ↔ GP nm es l o) := by
  induction h with
  | @last nm es l res hl hr =>
    intro hn o
    constructor
    · intro he
      obtain ⟨e, h1, rfl⟩ := fin_some he
      exact GP.last ((read_iff hr e).1 h1)
    · intro hg
      cases hg with
      | last g => rw [(read_iff hr _).2 g]; rfl
      | bind _ _ _ _ => exact absurd rfl hl
  | @bad nm es l hh =>
    intro hn o
    constructor
    · intro he; cases he
    · intro hg
      cases hg with
      | last g =>
        have := (g_plain hn g).1
        simp [plain] at this
      | bind h1 h2 _ _ => rw [hdr_mk h1 h2] at hh; cases hh
  | @body nm es s l l2 res hh hr he =>
    intro hn o
    constructor
    · intro he; cases he
    · intro hg
      obtain ⟨rfl, hs1, hs2⟩ := hdr_some hh
      cases hg with
      | last g =>
        have := (g_plain hn g).1
        simp [plain] at this
      | bind h1 h2 g gp =>
        have := det hr _ ((complete g).1 (.semi :: _) (Fol.cons _ (by intro k' o' e; cases e) (by intro e; cases e)))
        rw [this, eat_mk] at he
        cases he
  | @go nm es s l l2 r e res o' hh hr he hp ih =>
    intro hn o
    obtain ⟨rfl, hs1, hs2⟩ := hdr_some hh
    have hn2 := hn.snoc hs1
    constructor
    · intro ho
      obtain ⟨p, rfl, hg⟩ := sound hr e _ (eat_some he)
      exact GP.bind hs1 hs2 hg ((ih hn2 o).1 ho)
    · intro hg
      cases hg with
      | last g =>
        have := (g_plain hn g).1
        simp [plain] at this
      | bind h1 h2 g gp =>
        have := det hr _ ((complete g).1 (.semi :: _) (Fol.cons _ (by intro k' o' e; cases e) (by intro e; cases e)))
        rw [this, eat_mk] at he
        cases he
        exact (ih hn2 o).2 gp

/-- What a list of tokens is: its program, or none. -/
def Ans (l : List Tk) (res : Option Out) : Prop := ∀ o, (res = some o ↔ GP [] [] l o)
theorem Ans.one {l : List Tk} {r1 r2 : Option Out} (h1 : Ans l r1) (h2 : Ans l r2) : r1 = r2 := by
  cases r1 with
  | some o => exact ((h2 o).2 ((h1 o).1 rfl)).symm
  | none =>
    cases r2 with
    | none => rfl
    | some o => exact absurd ((h1 o).2 ((h2 o).1 rfl)) (by simp)
theorem RP.ans {l : List Tk} {res : Option Out} (h : RP [] [] l res) : Ans l res := prog_iff h (by intro s hs; simp at hs)

/- tokens of texts -/
def marks : List (Txt × Tk) := [([43], .op 5 8), ([45], .op 5 9), ([42], .op 6 10), ([47], .op 6 11), ([37], .op 6 12), ([40], .lp), ([41], .rp), ([44], .comma), ([59], .semi), ([61], .eq), ([63], .ques), ([58], .colon),
  ([60], .op 3 18), ([62], .op 3 20), ([38], .op 2 15), ([124], .op 0 16), ([94], .op 1 17), ([60, 61], .op 3 19), ([62, 61], .op 3 21), ([61, 61], .op 3 22), ([33, 61], .op 3 23), ([60, 60], .op 4 13), ([62, 62], .op 4 14)]
def mkT (s : Txt) : Tk := ((marks.find? fun r => r.1 == s).map (·.2)).getD .eq
def ab (t : Tok) : Tk := if t.kind = 1 then .num (vl t.text) else if t.kind = 2 then .word t.text else mkT t.text
/-- What holds of a text's tokens. -/
def Wf (t : Tok) : Prop := (t.kind = 1 ∧ num t.text = true) ∨ (t.kind = 2 ∧ wrd t.text = true) ∨ (t.kind = 3 ∧ t.text ∈ marks.map (·.1))

theorem wf_of {t : Tok} (h : Fm t.kind t.text) (hm : may t.kind t.text = true) : Wf t := by
  obtain ⟨hne, h⟩ := h
  rcases h with ⟨hk, h⟩ | ⟨hk, hA, h⟩ | ⟨hk, h⟩
  · left; rw [hk] at hm; exact ⟨hk, by simpa [may] using hm⟩
  · right; left; rw [hk] at hm; exact ⟨hk, by simpa [may] using hm⟩
  · right; right
    refine ⟨hk, ?_⟩
    rcases h with h | ⟨c, hc, h⟩
    · rcases contains_two h with h | h | h | h | h | h <;> rw [h] <;> decide
    · rw [h]
      have : c ∈ sh := by simpa using hc
      simp only [sh, List.mem_cons, List.not_mem_nil, or_false] at this
      rcases this with rfl | rfl | rfl | rfl | rfl | rfl | rfl | rfl | rfl | rfl | rfl | rfl | rfl | rfl | rfl | rfl | rfl <;> decide
theorem tks_wf {l : List UInt8} {T : List Tok} (h : tks l = some T) : ∀ t ∈ T, Wf t := fun t ht => by
  have := cov_good T l 0 (tks_cov h).1 t ht
  exact wf_of this.1 this.2

end Pz
