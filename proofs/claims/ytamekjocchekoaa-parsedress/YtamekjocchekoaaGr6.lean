/-
  Two texts joined: their program.
-/
import Derived.Test.YtamekjocchekoaaGr5
import Derived.Test.YtamekjocchekoaaOpr
import Derived.Test.YtamekjocchekoaaRtree
namespace Pz
open Lx
open Go.Proofs.Ytamekjocchekoaa (row rows G.ups)
set_option linter.unusedVariables false

theorem row_mark {k : Nat} (h : k < 16) : Fm 3 (row k).2.1 ∧ may 3 (row k).2.1 = true ∧ ab ⟨3, (row k).2.1, 0⟩ = .op (row k).1 (row k).2.2 ∧ (row k).1 < 7 ∧ (row k).2.1.length ≤ 2 ∧ (row k).2.2 ≠ 0 := by
  have key : ∀ k, k < 16 → (((row k).2.1 ≠ [] ∧ (two.contains (row k).2.1 = true ∨ ((row k).2.1.length = 1 ∧ sh.contains ((row k).2.1.headD 0) = true))) ∧ may 3 (row k).2.1 = true ∧ ab ⟨3, (row k).2.1, 0⟩ = .op (row k).1 (row k).2.2 ∧ (row k).1 < 7 ∧ (row k).2.1.length ≤ 2 ∧ (row k).2.2 ≠ 0) := by decide
  obtain ⟨⟨h1, h2⟩, h3⟩ := key k h
  refine ⟨⟨h1, .inr (.inr ⟨rfl, ?_⟩)⟩, h3⟩
  rcases h2 with h2 | ⟨h2, h4⟩
  · exact .inl h2
  · right
    match hx : (row k).2.1, h2, h4 with
    | [c], _, h4 => exact ⟨c, h4, rfl⟩

theorem gp_grows {nm : List Txt} {es : List E} {l : List Tk} {o : Out} (h : GP nm es l o) : nm.length ≤ o.1.length ∧ (o.1.length = nm.length → ∃ e, o = (nm, es, e) ∧ G nm 0 l e) := by
  induction h with
  | last g => exact ⟨Nat.le_refl _, fun _ => ⟨_, rfl, g⟩⟩
  | bind _ _ _ _ ih =>
    rw [List.length_append, List.length_singleton] at ih
    exact ⟨by omega, fun e => by omega⟩
theorem gp_one {l : List Tk} {NM : List Txt} {es : List E} {ex : E} (h : GP [] [] l (NM, es, ex)) (hn : NM.length = es.length) (he : es.length = 0) : NM = [] ∧ es = [] ∧ G [] 0 l ex := by
  obtain ⟨e, h1, h2⟩ := (gp_grows h).2 (by simp; exact List.length_eq_zero_iff.1 (by omega))
  cases h1
  exact ⟨rfl, rfl, h2⟩

theorem tks_join {a b : List UInt8} {A B : List Tk} {k : Nat} (hk : k < 16) (ha : ak a = some A) (hb : ak b = some B) :
    ak (40 :: (a ++ 10 :: 41 :: ((row k).2.1 ++ 40 :: (b ++ 10 :: [41])))) = some (.lp :: (A ++ .rp :: .op (row k).1 (row k).2.2 :: .lp :: (B ++ [.rp]))) := by
  obtain ⟨h1, h2, h3, -⟩ := row_mark hk
  rw [ak_mark (by decide) (by decide) (by decide) (by decide) (by decide), ak_nl a.length a _ (Nat.le_refl _), ha,
    ak_mark (by decide) (by decide) (by decide) (by decide) (by decide), ak_app h1 h2 (by intro d hd; simp at hd; subst hd; exact cuts_lp), h3,
    ak_mark (by decide) (by decide) (by decide) (by decide) (by decide), ak_nl b.length b _ (Nat.le_refl _), hb, ak_mark (by decide) (by decide) (by decide) (by decide) (by decide), ak_nil]
  rfl
theorem tks_neg {a : List UInt8} {A : List Tk} (ha : ak a = some A) : ak (45 :: 40 :: (a ++ 10 :: [41])) = some (.op 5 9 :: .lp :: (A ++ [.rp])) := by
  rw [ak_mark (by decide) (by decide) (by decide) (by decide) (by decide), ak_mark (by decide) (by decide) (by decide) (by decide) (by decide), ak_nl a.length a _ (Nat.le_refl _), ha,
    ak_mark (by decide) (by decide) (by decide) (by decide) (by decide), ak_nil]
  rfl
def wMax : Txt := [109, 97, 120]
theorem tks_max {a b : List UInt8} {A B : List Tk} (ha : ak a = some A) (hb : ak b = some B) :
    ak (wMax ++ 40 :: (a ++ 10 :: 44 :: (b ++ 10 :: [41]))) = some (.word wMax :: .lp :: (A ++ .comma :: (B ++ [.rp]))) := by
  have hf : Fm 2 wMax := ⟨by decide, .inr (.inl ⟨rfl, by decide, by decide⟩)⟩
  rw [ak_app hf (by decide) (by intro d hd; simp at hd; subst hd; exact cuts_lp), ak_mark (by decide) (by decide) (by decide) (by decide) (by decide), ak_nl a.length a _ (Nat.le_refl _), ha,
    ak_mark (by decide) (by decide) (by decide) (by decide) (by decide), ak_nl b.length b _ (Nat.le_refl _), hb, ak_mark (by decide) (by decide) (by decide) (by decide) (by decide), ak_nil]
  rfl
theorem gp_join {A B : List Tk} {ea eb : E} {k : Nat} (hk : k < 16) (ha : G [] 0 A ea) (hb : G [] 0 B eb) : GP [] [] (.lp :: (A ++ .rp :: .op (row k).1 (row k).2.2 :: .lp :: (B ++ [.rp]))) ([], [], .bin (row k).2.2 ea eb) := by
  obtain ⟨-, -, -, h7, -⟩ := row_mark hk
  refine GP.last ?_
  have h1 : G [] 8 (.lp :: (A ++ [.rp])) ea := G.par ha
  have h2 : G [] 8 (.lp :: (B ++ [.rp])) eb := G.par hb
  have h3 := G.bin (o := (row k).2.2) h7 (G.ups h1 (c' := lefts (row k).1) (by unfold lefts; split <;> omega) (by omega)) (G.ups h2 (c' := (row k).1 + 2) (by omega) (by omega))
  have := G.ups h3 (c' := 0) (by omega) (by omega)
  simpa using this
theorem gp_neg {A : List Tk} {ea : E} (ha : G [] 0 A ea) : GP [] [] (.op 5 9 :: .lp :: (A ++ [.rp])) ([], [], .un 5 ea) :=
  GP.last (G.ups (G.neg (G.par ha)) (by omega) (by omega))
theorem gp_max {A B : List Tk} {ea eb : E} (ha : G [] 0 A ea) (hb : G [] 0 B eb) : GP [] [] (.word wMax :: .lp :: (A ++ .comma :: (B ++ [.rp]))) ([], [], .bin 25 ea eb) :=
  GP.last (G.ups (G.call2 (s := wMax) rfl ha hb) (by omega) (by omega))

end Pz
