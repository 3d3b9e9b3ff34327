/-
  Two writers in turns and the lists of their bits: how they stand in memory, and what is kept when one of them grows.
-/
import Derived.Test.YtkmhdkeneggceaaRefB
import Derived.Test.YtkmhdkeneggceaaApart
namespace Go.Proofs.Ytkmhdkeneggceaa
open Go.RowKit Bt
set_option linter.unusedVariables false

/-- The bits of the steps of one writer. -/
def mine (S : Nat → Stp) (p : Nat → Bool) : Nat → List Int
  | 0 => []
  | i + 1 => if p i then mine S p i ++ (S i).made else mine S p i

theorem mine_len (S : Nat → Stp) (p : Nat → Bool) (k : Nat) : (mine S p k).length ≤ 65 * k := by
  induction k with
  | zero => exact Nat.le_refl _
  | succ k ih =>
    have := (S k).made_len
    unfold mine
    split
    · rw [List.length_append]; omega
    · omega
theorem mine_bin (S : Nat → Stp) (p : Nat → Bool) (k : Nat) : Bin (mine S p k) := by
  induction k with
  | zero => intro b hb; cases hb
  | succ k ih =>
    unfold mine
    split
    · exact ih.append (S k).made_bin
    · exact ih
theorem mine_yes {S : Nat → Stp} {p : Nat → Bool} {k : Nat} (h : p k = true) : mine S p (k + 1) = mine S p k ++ (S k).made := by simp [mine, h]
theorem mine_no {S : Nat → Stp} {p : Nat → Bool} {k : Nat} (h : p k = false) : mine S p (k + 1) = mine S p k := by simp [mine, h]

/-- Two writers and two lists of numbers. -/
structure St (B : Nat) (w wr : World) (R1 : Nat) (v1 : Value) (b1 : List Int) (R2 : Nat) (v2 : Value) (b2 : List Int) (vl : Value) (lb : List Int) (vm : Value) (mb : List Int) : Prop where
  two : Two B wr R1 v1 b1 R2 v2 b2
  l : OwnI B wr vl lb
  m : OwnI B wr vm mb
  lm : ∀ g, vl.ownBlock = some g → vm.ownBlock ≠ some g
  below : Below B w wr

theorem St.swap {B : Nat} {w wr : World} {R1 R2 : Nat} {v1 v2 vl vm : Value} {b1 b2 lb mb : List Int} (h : St B w wr R1 v1 b1 R2 v2 b2 vl lb vm mb) : St B w wr R2 v2 b2 R1 v1 b1 vm mb vl lb :=
  ⟨h.two.swap, h.m, h.l, fun g h2 h1 => h.lm g h1 h2, h.below⟩

theorem St.base {B : Nat} {w wr : World} {R1 R2 : Nat} {v1 v2 vl vm : Value} {b1 b2 lb mb : List Int} (h : St B w wr R1 v1 b1 R2 v2 b2 vl lb vm mb) : B ≤ wr.heap.size :=
  Nat.le_trans h.two.one.base (Nat.le_of_lt h.two.one.lt)

theorem owns_later {w w' : World} {base e size n : Nat} {v : Value} {xs : List Value} (h : w.ownsRow base e size v n xs) (hb : Below w.heap.size w w') : w'.ownsRow base e size v n xs :=
  (Keeps.of_below (S := fun _ => False) hb (fun k hk h' => by omega)).owns h (fun _ _ hf => hf)

theorem St.later {B : Nat} {w wr w' : World} {R1 R2 : Nat} {v1 v2 vl vm : Value} {b1 b2 lb mb : List Int} (h : St B w wr R1 v1 b1 R2 v2 b2 vl lb vm mb) (hb : Below wr.heap.size wr w') : St B w w' R1 v1 b1 R2 v2 b2 vl lb vm mb :=
  ⟨h.two.later hb, owns_later h.l hb, owns_later h.m hb, h.lm, h.below.trans (hb.mono h.base)⟩

theorem none_or_ne {a b : Option Nat} (h : a = none ∨ a ≠ b) {g : Nat} (ha : a = some g) (hb : b = some g) : False := by
  rcases h with h | h
  · rw [h] at ha; cases ha
  · exact h (by rw [ha, hb])

/-- The first writer was written on. -/
theorem St.put {B : Nat} {w wr w' : World} {R1 R2 : Nat} {v1 v1' v2 vl vm : Value} {b1 b1' b2 lb mb : List Int} (h : St B w wr R1 v1 b1 R2 v2 b2 vl lb vm mb) (hW : Wr B w' R1 v1' b1') (hG : Goes wr w' R1 v1 v1') : St B w w' R1 v1' b1' R2 v2 b2 vl lb vm mb := by
  have hk : ∀ {v : Value} {n : Nat} {xs : List Value}, wr.ownsRow B 3 1 v n xs → w'.ownsRow B 3 1 v n xs := fun {v n xs} hv => hG.keeps.owns hv (fun g hg hI => by
    rcases hI with rfl | hI
    · exact owns_not hv h.two.one.heap (by decide) hg
    · exact none_or_ne (owns_apart hv h.two.one.own (by decide)) hg hI)
  exact ⟨h.two.step hW hG, hk h.l, hk h.m, h.lm, h.below.trans (hG.below h.two.one)⟩

/-- The first list has grown. -/
theorem St.grow {B : Nat} {w wr w' : World} {R1 R2 n : Nat} {v1 v2 vl vl' vm : Value} {b1 b2 lb mb xs : List Int} (h : St B w wr R1 v1 b1 R2 v2 b2 vl lb vm mb)
    (hown : w'.ownsRow B 3 1 vl' (lb.length + n) (i64s lb ++ i64s xs)) (hn : xs.length = n)
    (hgr : (∃ g cap, vl = .slice (some ⟨g, 0, none⟩) lb.length cap ∧ vl' = .slice (some ⟨g, 0, none⟩) (lb.length + n) cap ∧ wr.grownBy w' (some g)) ∨ (wr.grownBy w' none ∧ ∀ g, vl'.ownBlock = some g → wr.heap.size ≤ g)) :
    St B w w' R1 v1 b1 R2 v2 b2 vl' (lb ++ xs) vm mb := by
  have hk : Keeps wr w' (fun k => vl.ownBlock = some k) := by
    rcases hgr with ⟨g, cap, rfl, rfl, hg⟩ | ⟨hg, _⟩
    · exact (Keeps.refl _ _).grown hg (fun k e => by cases e; exact .inl rfl)
    · exact (Keeps.refl _ _).grown hg (fun k e => by cases e)
  have hl' : OwnI B w' vl' (lb ++ xs) := by
    unfold OwnI
    rw [List.length_append, hn]
    simpa using hown
  have hWr : ∀ {R : Nat} {v : Value} {bs : List Int}, Wr B wr R v bs → Wr B w' R v bs := fun {R v bs} hW => hk.wr hW (fun g hI hg => by
    rcases hI with rfl | hI
    · exact owns_not h.l hW.heap (by decide) hg
    · exact none_or_ne (owns_apart h.l hW.own (by decide)) hg hI)
  refine ⟨⟨hWr h.two.one, hWr h.two.two, h.two.ne, h.two.dist⟩, hl', hk.owns h.m (fun g hg hg' => h.lm g hg' hg), ?_, h.below.trans (hk.below h.base (fun k hk' => (h.l.lt k hk').1))⟩
  intro g hg hm
  rcases hgr with ⟨g', cap, rfl, rfl, _⟩ | ⟨_, hnew⟩
  · exact h.lm g hg hm
  · have h1 := hnew g hg
    have h2 := (h.m.lt g hm).2
    omega

end Go.Proofs.Ytkmhdkeneggceaa
