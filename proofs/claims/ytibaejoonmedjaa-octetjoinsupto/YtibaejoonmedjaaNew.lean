/-
  The walk of octet.New: a reader that stands at the beginning of a copy of the bytes.
-/
import Derived.Test.YtibaejoonmedjaaJoin
namespace Go.Proofs.Ytibaejoonmedjaa
open Go.RowKit Oct
set_option linter.unusedVariables false

/-- The reader in block r: its bytes lie in block g; what is left reads as zs. -/
def Rd (w : World) (r g : Nat) (zs : List Int) : Prop :=
  ∃ off n c, w.heap[r]? = some (.cells #[.slice (some ⟨g, off, none⟩) n c] 55 (0, 0)) ∧ Bytes w (some ⟨g, off, none⟩) n c zs ∧ g ≠ r ∧ g < w.heap.size

theorem Rd.open {w : World} {r g : Nat} {zs : List Int} (h : Rd w r g zs) :
    ∃ a n c, w.heap[r]? = some (.cells #[.slice a n c] 55 (0, 0)) ∧ Bytes w a n c zs ∧ (∀ x, a = some x → x.block = g) ∧ g ≠ r ∧ g < w.heap.size := by
  obtain ⟨off, n, c, hr, hb, hne, hlt⟩ := h
  exact ⟨_, n, c, hr, hb, fun x hx => by cases hx; rfl, hne, hlt⟩

/-- Bytes in a block that is not written. -/
theorem Bytes.kept {w w' : World} {row : Option Nat} {a : Option Addr} {n c : Nat} {zs : List Int} (h : Bytes w a n c zs) (hg : w.grownBy w' row) (hne : ∀ x, a = some x → n ≠ 0 → some x.block ≠ row) : Bytes w' a n c zs := by
  refine h.of_cells fun b off ha hn i hi => ?_
  obtain ⟨b', off', ha', hlt, _⟩ := h.at hn
  rw [ha] at ha'
  cases ha'
  exact World.cell?_of_block (a := ⟨b, off + i, none⟩) (hg.block b hlt (hne _ ha hn))

theorem Rd.kept {w w' : World} {row : Option Nat} {r g : Nat} {zs : List Int} (h : Rd w r g zs) (hg : w.grownBy w' row) (h1 : some r ≠ row) (h2 : some g ≠ row) : Rd w' r g zs := by
  obtain ⟨off, n, c, hr, hb, hne, hlt⟩ := h
  refine ⟨off, n, c, ?_, hb.kept hg (fun x hx _ => by cases hx; exact h2), hne, Nat.lt_of_lt_of_le hlt hg.size⟩
  rw [hg.block r (Array.getElem?_eq_some_iff.1 hr).1 h1]
  exact hr

theorem join_one (b : Nat) (a : Option Addr) (n c : Nat) (zs : List Int) (w : World) (hc : w.cell? ⟨b, 0, none⟩ = some (.slice a n c)) (hb : Bytes w a n c zs) (hsum : n ≤ 281474976710656) :
    Calls Try.prog 16 #[.slice (some ⟨b, 0, none⟩) 1 1] w fun e w' => e = .returned (.slice (some ⟨w.heap.size, 0, none⟩) n n) ∧
      w'.ownsRow w.heap.size 5 1 (.slice (some ⟨w.heap.size, 0, none⟩) n n) n (u8s zs) ∧ Below w.heap.size w w' := by
  have e : joined [⟨a, n, c, zs⟩] = zs := by simp [joined]
  have hl := hb.len
  have h := join_any (some ⟨b, 0, none⟩) 1 1 [⟨a, n, c, zs⟩] w ⟨rfl, .inr ⟨b, 0, rfl, fun i hi => by
    have : i = 0 := by simpa using hi
    subst this
    exact hc⟩, fun p hp => by simp at hp; subst hp; exact hb⟩ (by decide) (by rw [e, hl]; exact hsum)
  rw [e, hl] at h
  exact h

theorem rd_new {w1 : World} {g n : Nat} {zs : List Int} {base : Nat} (hown : w1.ownsRow base 5 1 (.slice (some ⟨g, 0, none⟩) n n) n (u8s zs)) (hz : ∀ z ∈ zs, 0 ≤ z ∧ z ≤ 255) :
    Rd (w1.alloc (.cells #[.slice (some ⟨g, 0, none⟩) n n] 55)) w1.heap.size g zs := by
  have hlt := (hown.lt g rfl).2
  obtain ⟨a, cap, hv, hB, _⟩ := Bytes.of_owns hown hz
  simp only [Value.slice.injEq] at hv
  obtain ⟨rfl, _, rfl⟩ := hv
  exact ⟨0, n, n, heap_alloc_new w1 _, hB.later ((Below.refl _ _).alloc (Nat.le_refl _) _), by omega, by simp; omega⟩

set_option maxHeartbeats 400000 in
theorem new_any (a : Option Addr) (n c : Nat) (zs : List Int) (w : World) (hb : Bytes w a n c zs) (hsum : n ≤ 281474976710656) :
    Calls Try.prog 19 #[.slice a n c] w fun e w' => ∃ r g, e = .returned (.pointer (some ⟨r, 0, none⟩)) ∧ Rd w' r g zs ∧ w.heap.size ≤ r ∧ w.heap.size ≤ g ∧ r < w'.heap.size ∧ Below w.heap.size w w' := by
  go_enter Try.func19, Try.ntmps19
  go_wp2_with fail
  refine (join_one w.heap.size a n c zs _ (by simp) (hb.later ((Below.refl _ _).alloc (Nat.le_refl _) _)) hsum).mono ?_
  rintro e w1 ⟨rfl, hown, hbel⟩
  have hR := rd_new hown hb.byte
  have hsz : w.heap.size + 1 ≤ w1.heap.size := by have := hbel.size; simpa using this
  have hB : Below w.heap.size w w1 := ((Below.refl _ _).alloc (Nat.le_refl _) _).trans (hbel.mono (by simp))
  clear hown hbel
  go_wp2_with fail
  go_ret
  exact ⟨w1.heap.size, w.heap.size + 1, rfl, by simpa using hR, by omega, by omega, by simp, hB.alloc (by omega) _⟩

end Go.Proofs.Ytibaejoonmedjaa
