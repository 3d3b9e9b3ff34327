/-
  Pack, plainly (ahead of the code): readers of bytes, words that they read, and what of a word cut short is too short.
-/
import Derived.Test.YtphmamhchkolkaaMOcQ
import Derived.Test.YtphmamhchkolkaaMCdC
namespace Go.Proofs.Pck
open Go.RowKit Go.IntWalk
open Ytphmamhchkolkaa.Oct (vb vint lim scn scan pw rdU rdI zz uz)
open Cde (In i0 agL arN okI okT mcB csB rgN)
set_option linter.unusedVariables false

/-- A reader: the error (0: none), what is read, what is left. -/
abbrev Rd (α : Type) := List Int → Int × α × List Int
def ret {α : Type} (x : α) : Rd α := fun zs => (0, x, zs)
def bnd {α β : Type} (z : β) (p : Rd α) (q : α → Rd β) : Rd β := fun zs => if (p zs).1 = 0 then q (p zs).2.1 (p zs).2.2 else ((p zs).1, z, (p zs).2.2)
/-- A test: the error where it does not hold. -/
def tst {α : Type} (z : α) (b : Bool) (e : Int) (q : Rd α) : Rd α := fun zs => if b = true then q zs else (e, z, zs)
def byt : Rd Int := fun zs => match zs with
  | [] => (2, 0, [])
  | c :: r => (0, c, r)
def nat : Rd Int := fun zs => ((rdU zs).2.2, (rdU zs).1, zs.drop (rdU zs).2.1)
def num : Rd Int := fun zs => ((rdI zs).2.2, (rdI zs).1, zs.drop (rdI zs).2.1)

/-- The word w is read as x, whatever stands behind it; cut short it is too short. -/
structure Wr {α : Type} (p : Rd α) (w : List Int) (x : α) : Prop where
  all : ∀ r, p (w ++ r) = (0, x, r)
  cut : ∀ u v, u ++ v = w → v ≠ [] → (p u).1 = 2
theorem Wr.ret {α : Type} (x : α) : Wr (ret x) [] x := ⟨fun r => rfl, fun u v h hv => by
  have := List.append_eq_nil_iff.1 h
  exact absurd this.2 hv⟩
theorem Wr.bnd {α β : Type} {z : β} {p : Rd α} {q : α → Rd β} {w w' : List Int} {x : α} {y : β} (h : Wr p w x) (g : Wr (q x) w' y) : Wr (bnd z p q) (w ++ w') y := by
  refine ⟨fun r => ?_, fun u v huv hv => ?_⟩
  · unfold Pck.bnd
    rw [List.append_assoc, h.all]
    exact g.all r
  · unfold Pck.bnd
    rcases List.append_eq_append_iff.1 huv with ⟨a, h1, h2⟩ | ⟨a, h1, h2⟩
    · by_cases ha : a = []
      · subst ha
        rw [List.append_nil] at h1
        subst h1
        have e := h.all []
        rw [List.append_nil] at e
        rw [e]
        have := g.cut [] v (by simpa using h2) hv
        simpa using this
      · rw [if_neg]
        · exact h.cut u a h1.symm ha
        · rw [h.cut u a h1.symm ha]; decide
    · subst h1
      rw [h.all a]
      exact g.cut a v h2.symm hv
theorem Wr.tst {α : Type} {z : α} {b : Bool} {e : Int} {q : Rd α} {w : List Int} {x : α} (hb : b = true) (h : Wr q w x) : Wr (tst z b e q) w x := by
  unfold Pck.tst
  rw [hb]
  simpa using h
theorem Wr.byt (c : Int) : Wr byt [c] c := ⟨fun r => rfl, fun u v h hv => by
  rcases u with _ | ⟨a, u⟩
  · rfl
  · simp at h
    exact absurd h.2.2 hv⟩
theorem scn_cut (k : Nat) : ∀ (i : Nat) (x Y p : Int) (u v : List Int), i + k = 9 → 0 ≤ Y → Y < lim k → u ++ v = vb k Y → v ≠ [] → scn i x p u = (0, 0, 2) := by
  induction k with
  | zero =>
    intro i x Y p u v hi h0 h1 h hv
    rcases u with _ | ⟨a, u⟩
    · rfl
    · simp [vb] at h
      exact absurd h.2.2 hv
  | succ k ih =>
    intro i x Y p u v hi h0 h1 h hv
    simp only [lim] at h1
    rcases u with _ | ⟨a, u⟩
    · rfl
    · by_cases hY : Y < 128
      · rw [Ytphmamhchkolkaa.Oct.vb_last _ _ hY] at h
        simp at h
        exact absurd h.2.2 hv
      · rw [Ytphmamhchkolkaa.Oct.vb_more _ _ (by omega), List.cons_append, List.cons.injEq] at h
        rw [scn, if_neg (by omega), if_pos (by omega)]
        exact ih (i + 1) _ (Y / 128) _ u v (by omega) (by omega) (by omega) h.2 hv
theorem scan_cut {x : Int} (h0 : 0 ≤ x) (h1 : x < 18446744073709551616) {u v : List Int} (h : u ++ v = vint x) (hv : v ≠ []) : scan u = (0, 0, 2) :=
  scn_cut 9 0 0 x 1 u v rfl h0 (by rw [Ytphmamhchkolkaa.Oct.lim9]; exact h1) h hv
theorem Wr.nat {x : Int} (h0 : 0 ≤ x) (h1 : x ≤ 9223372036854775807) : Wr nat (vint x) x := by
  refine ⟨fun r => ?_, fun u v h hv => ?_⟩
  · unfold Pck.nat rdU
    rw [Ytphmamhchkolkaa.Oct.scan_vint x r h0 (by omega)]
    simp only [if_true]
    rw [if_neg (by omega)]
    simp
  · unfold Pck.nat rdU
    rw [scan_cut h0 (by omega) h hv]
    rfl
theorem Wr.num {x : Int} (h0 : -9223372036854775808 ≤ x) (h1 : x ≤ 9223372036854775807) : Wr num (vint (zz x)) x := by
  obtain ⟨z0, z1⟩ := Ytphmamhchkolkaa.Oct.zz_range x h0 h1
  refine ⟨fun r => ?_, fun u v h hv => ?_⟩
  · unfold Pck.num rdI
    rw [Ytphmamhchkolkaa.Oct.scan_vint _ r z0 z1]
    simp [Ytphmamhchkolkaa.Oct.uz_zz]
  · unfold Pck.num rdI
    rw [scan_cut z0 z1 h hv]
    rfl

/-- What is read without an error is just one word. -/
def Byts (zs : List Int) : Prop := ∀ c ∈ zs, 0 ≤ c ∧ c ≤ 255
theorem Byts.drop {zs : List Int} (h : Byts zs) (n : Nat) : Byts (zs.drop n) := fun c hc => h c (List.mem_of_mem_drop hc)
theorem nat_one {zs r : List Int} {x : Int} (hb : Byts zs) (h : nat zs = (0, x, r)) : zs = vint x ++ r ∧ 0 ≤ x ∧ x ≤ 9223372036854775807 ∧ Byts r := by
  unfold nat rdU at h
  rcases Ytphmamhchkolkaa.Oct.scan_cases zs hb with ⟨X, e, h0, h1, h2, h3⟩ | e | e
  · rw [e] at h
    simp only [if_true] at h
    split at h
    · simp at h
    · simp only [Prod.mk.injEq, Int.toNat_natCast, true_and] at h
      obtain ⟨rfl, rfl⟩ := h
      refine ⟨?_, h0, by omega, hb.drop _⟩
      conv => lhs; rw [← List.take_append_drop (vint X).length zs, h3]
  · rw [e] at h; simp at h
  · rw [e] at h; simp at h
theorem num_one {zs r : List Int} {x : Int} (hb : Byts zs) (h : num zs = (0, x, r)) : zs = vint (zz x) ++ r ∧ -9223372036854775808 ≤ x ∧ x ≤ 9223372036854775807 ∧ Byts r := by
  unfold num rdI at h
  rcases Ytphmamhchkolkaa.Oct.scan_cases zs hb with ⟨X, e, h0, h1, h2, h3⟩ | e | e
  · rw [e] at h
    simp only [if_true, Prod.mk.injEq, Int.toNat_natCast, true_and] at h
    obtain ⟨rfl, rfl⟩ := h
    obtain ⟨q1, q2⟩ := Ytphmamhchkolkaa.Oct.uz_range X h0 h1
    refine ⟨?_, q1, q2, hb.drop _⟩
    rw [Ytphmamhchkolkaa.Oct.zz_uz X h0]
    conv => lhs; rw [← List.take_append_drop (vint X).length zs, h3]
  · rw [e] at h; simp at h
  · rw [e] at h; simp at h
theorem byt_one {zs r : List Int} {x : Int} (hb : Byts zs) (h : byt zs = (0, x, r)) : zs = [x] ++ r ∧ 0 ≤ x ∧ x ≤ 255 ∧ Byts r := by
  rcases zs with _ | ⟨c, zs⟩
  · simp [byt] at h
  · simp only [byt, Prod.mk.injEq, true_and] at h
    obtain ⟨rfl, rfl⟩ := h
    exact ⟨rfl, (hb c (by simp)).1, (hb c (by simp)).2, fun z hz => hb z (by simp [hz])⟩
theorem bnd_ok {α β : Type} {z y : β} {p : Rd α} {q : α → Rd β} {zs r : List Int} (h : bnd z p q zs = (0, y, r)) : ∃ x r', p zs = (0, x, r') ∧ q x r' = (0, y, r) := by
  unfold bnd at h
  split at h
  · rename_i e
    exact ⟨(p zs).2.1, (p zs).2.2, by rw [← e], h⟩
  · rename_i e
    simp only [Prod.mk.injEq] at h
    exact absurd h.1 e
theorem tst_ok {α : Type} {z x : α} {b : Bool} {e : Int} {q : Rd α} {zs r : List Int} (he : e ≠ 0) (h : tst z b e q zs = (0, x, r)) : b = true ∧ q zs = (0, x, r) := by
  unfold tst at h
  split at h
  · rename_i e; exact ⟨e, h⟩
  · simp only [Prod.mk.injEq] at h
    exact absurd h.1 he

end Go.Proofs.Pck
