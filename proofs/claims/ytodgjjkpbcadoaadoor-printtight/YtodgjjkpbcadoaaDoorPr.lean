/-
  What a tree's text is, plainly: no program, no memory.
-/
import Derived.Test.YtodgjjkpbcadoaaDoorGr9
import Derived.Lib.ItoaNum
namespace Pz
open Lx Go.Lib
set_option linter.unusedVariables false

/-- Of each operator its text, and how tight it is. -/
def opTab : List (Txt × Nat) := [([], 0), ([], 9), ([], 9), ([], 9), ([], 9), ([], 8), ([97, 98, 115], 9), ([115, 103, 110], 9), ([43], 6), ([45], 6), ([42], 7), ([47], 7), ([37], 7), ([60, 60], 5), ([62, 62], 5), ([38], 3), ([124], 1), ([94], 2),
  ([60], 4), ([60, 61], 4), ([62], 4), ([62, 61], 4), ([61, 61], 4), ([33, 61], 4), ([109, 105, 110], 9), ([109, 97, 120], 9), ([99, 108, 97, 109, 112], 9), ([109, 101, 100], 9), ([], 0)]
def otx (o : Int) : Txt := (opTab.getD o.toNat ([], 0)).1
def ork (o : Int) : Nat := (opTab.getD o.toNat ([], 0)).2
def inTx : List Txt := [[120], [121], [99], [108, 111], [104, 105], [109, 105, 100]]

def rkE : E → Nat
  | .leaf n => ork n.op
  | .un o _ => ork o
  | .bin o _ _ => ork o
  | .tri o _ _ _ => ork o

def brk (b : Bool) (l : Txt) : Txt := if b then 40 :: (l ++ [41]) else l
/-- How tight the first part of an operator of two is at least. -/
def lfk (o : Int) : Nat := if ork o = 4 then 5 else ork o

def plT (n : Nd) : Txt := (if n.back = 0 then [112, 40] else [113, 40] ++ (itoa n.back ++ [44])) ++ (itoa n.x ++ ((if n.co = 2 then 44 :: itoa n.y else []) ++ [41]))
def leafT (nm : List Txt) (n : Nd) : Txt := if n.op = 1 then itoa n.k else if n.op = 2 then inTx.getD n.k.toNat [] else if n.op = 4 then nm.getD n.k.toNat [] else plT n

def etx (nm : List Txt) : E → Txt
  | .leaf n => leafT nm n
  | .un o a => if o = 5 then 45 :: brk (decide (rkE a < 8)) (etx nm a) else otx o ++ 40 :: (etx nm a ++ [41])
  | .bin o a b => if o = 24 ∨ o = 25 then otx o ++ 40 :: (etx nm a ++ 44 :: (etx nm b ++ [41])) else brk (decide (rkE a < lfk o)) (etx nm a) ++ (otx o ++ brk (decide (rkE b < ork o + 1)) (etx nm b))
  | .tri o a b c => if o = 28 then brk (decide (rkE a < 1)) (etx nm a) ++ 63 :: (etx nm b ++ 58 :: etx nm c) else otx o ++ 40 :: (etx nm a ++ 44 :: (etx nm b ++ 44 :: (etx nm c ++ [41])))
/-- A part's text, in brackets where it is looser than it may be. -/
def prp (nm : List Txt) (c : Nat) (e : E) : Txt := brk (decide (rkE e < c)) (etx nm e)

def letT (nm : List Txt) : List Txt → List E → Txt
  | s :: ns, e :: es => [108, 101, 116, 32] ++ (s ++ 61 :: (etx nm e ++ 59 :: letT nm ns es))
  | _, _ => []
def prgT (nm : List Txt) (es : List E) (ex : E) : Txt := letT nm nm es ++ etx nm ex

/-- The expression whose last node is number i of the nodes. -/
def Lies (NS : List Nd) : E → Nat → Prop
  | .leaf n, i => NS[i]? = some n
  | .un o a, i => ∃ p : Nat, NS[i]? = some ⟨o, (p : Int), 0, 0, 0, 0, 0, 0, 0⟩ ∧ Lies NS a p
  | .bin o a b, i => ∃ p q : Nat, NS[i]? = some ⟨o, (p : Int), (q : Int), 0, 0, 0, 0, 0, 0⟩ ∧ Lies NS a p ∧ Lies NS b q
  | .tri o a b c, i => ∃ p q r : Nat, NS[i]? = some ⟨o, (p : Int), (q : Int), (r : Int), 0, 0, 0, 0, 0⟩ ∧ Lies NS a p ∧ Lies NS b q ∧ Lies NS c r

theorem get_mid {α : Type} (P M Q : List α) (x : α) (s : Nat) (h : s = P.length + M.length) : (P ++ (M ++ [x]) ++ Q)[s]? = some x := by
  subst h
  rw [List.append_assoc, List.append_assoc, List.getElem?_append_right (by omega), List.getElem?_append_right (by omega)]
  simp

theorem lies_flat : ∀ (e : E) (P Q : List Nd), Lies (P ++ e.flat P.length ++ Q) e (P.length + e.size - 1)
  | .leaf n, P, Q => by
    show (P ++ [n] ++ Q)[P.length + 1 - 1]? = some n
    simp
  | .un o a, P, Q => by
    have hp := a.size_pos
    refine ⟨P.length + a.size - 1, ?_, ?_⟩
    · simp only [E.flat, E.size]
      rw [get_mid P _ Q _ _ (by rw [E.flat_len]; omega)]
      simp only [Option.some.injEq, Nd.mk.injEq, and_self, and_true, true_and]
      omega
    · have := lies_flat a P ([⟨o, (P.length + a.size : Nat) - 1, 0, 0, 0, 0, 0, 0, 0⟩] ++ Q)
      simpa only [E.flat, List.append_assoc] using this
  | .bin o a b, P, Q => by
    have hp := a.size_pos
    have hq := b.size_pos
    refine ⟨P.length + a.size - 1, P.length + a.size + b.size - 1, ?_, ?_, ?_⟩
    · simp only [E.flat, E.size]
      rw [get_mid P _ Q _ _ (by rw [List.length_append, E.flat_len, E.flat_len]; omega)]
      simp only [Option.some.injEq, Nd.mk.injEq, and_self, and_true, true_and]
      omega
    · have := lies_flat a P (b.flat (P.length + a.size) ++ ([⟨o, (P.length + a.size : Nat) - 1, (P.length + a.size + b.size : Nat) - 1, 0, 0, 0, 0, 0, 0⟩] ++ Q))
      simpa only [E.flat, List.append_assoc] using this
    · have := lies_flat b (P ++ a.flat P.length) ([⟨o, (P.length + a.size : Nat) - 1, (P.length + a.size + b.size : Nat) - 1, 0, 0, 0, 0, 0, 0⟩] ++ Q)
      rw [List.length_append, E.flat_len] at this
      simpa only [E.flat, List.append_assoc] using this
  | .tri o a b c, P, Q => by
    have hp := a.size_pos
    have hq := b.size_pos
    have hr := c.size_pos
    refine ⟨P.length + a.size - 1, P.length + a.size + b.size - 1, P.length + a.size + b.size + c.size - 1, ?_, ?_, ?_, ?_⟩
    · simp only [E.flat, E.size]
      rw [get_mid P _ Q _ _ (by rw [List.length_append, List.length_append, E.flat_len, E.flat_len, E.flat_len]; omega)]
      simp only [Option.some.injEq, Nd.mk.injEq, and_self, and_true, true_and]
      omega
    · have := lies_flat a P (b.flat (P.length + a.size) ++ (c.flat (P.length + a.size + b.size) ++ ([⟨o, (P.length + a.size : Nat) - 1, (P.length + a.size + b.size : Nat) - 1, (P.length + a.size + b.size + c.size : Nat) - 1, 0, 0, 0, 0, 0⟩] ++ Q)))
      simpa only [E.flat, List.append_assoc] using this
    · have := lies_flat b (P ++ a.flat P.length) (c.flat (P.length + a.size + b.size) ++ ([⟨o, (P.length + a.size : Nat) - 1, (P.length + a.size + b.size : Nat) - 1, (P.length + a.size + b.size + c.size : Nat) - 1, 0, 0, 0, 0, 0⟩] ++ Q))
      rw [List.length_append, E.flat_len] at this
      simpa only [E.flat, List.append_assoc] using this
    · have := lies_flat c (P ++ a.flat P.length ++ b.flat (P.length + a.size)) ([⟨o, (P.length + a.size : Nat) - 1, (P.length + a.size + b.size : Nat) - 1, (P.length + a.size + b.size + c.size : Nat) - 1, 0, 0, 0, 0, 0⟩] ++ Q)
      rw [List.length_append, List.length_append, E.flat_len, E.flat_len] at this
      simpa only [E.flat, List.append_assoc] using this

/-- Where the expressions of a program lie. -/
theorem lies_list : ∀ (es : List E) (P Q : List Nd) (j : Nat) (e : E), es[j]? = some e → ∃ p : Nat, (bdL es P.length)[j]? = some (p : Int) ∧ Lies (P ++ flL es P.length ++ Q) e p
  | [], P, Q, j, e, h => by simp at h
  | a :: es, P, Q, 0, e, h => by
    simp at h; subst h
    refine ⟨P.length + a.size - 1, ?_, ?_⟩
    · have := a.size_pos
      simp only [bdL, List.getElem?_cons_zero, Option.some.injEq]
      omega
    · have := lies_flat a P (flL es (P.length + a.size) ++ Q)
      simpa only [flL, List.append_assoc] using this
  | a :: es, P, Q, j + 1, e, h => by
    obtain ⟨p, h1, h2⟩ := lies_list es (P ++ a.flat P.length) Q j e (by simpa using h)
    rw [List.length_append, E.flat_len] at h1 h2
    refine ⟨p, by simpa only [bdL, List.getElem?_cons_succ] using h1, ?_⟩
    simpa only [flL, List.append_assoc] using h2

end Pz
