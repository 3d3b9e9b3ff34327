/-
  The walk of kind.blocks: which rectangles of places a kind has; they lie in memory of the call's own.
-/
import Derived.Test.YtinlknflkgijmaaLow
import Derived.Laws.AppendOwn
import Derived.Laws.OwnMore
import Derived.OwnWalk
import Derived.RangeFuncBox
namespace Go.Proofs.Ytinlknflkgijmaa
open Go.RowKit
set_option linter.unusedVariables false

/-- A rectangle of places in one plane. -/
structure Blk where
  back : Int
  coords : Int
  y0 : Int
  y1 : Int
  x0 : Int
  x1 : Int

def Blk.cells (b : Blk) : List Value := [.int .i64 b.back, .int .i64 b.coords, .int .i64 b.y0, .int .i64 b.y1, .int .i64 b.x0, .int .i64 b.x1]
def bcells (l : List Blk) : List Value := l.flatMap Blk.cells

theorem bcells_snoc (l : List Blk) (b : Blk) : bcells (l ++ [b]) = bcells l ++ b.cells := by simp [bcells]

def imageUp (k : Nat) : List Blk := [⟨0, 2, -2, -1, -3, 3⟩, ⟨0, 2, 0, 0, -3, -1⟩] ++ (List.range k).map fun j => ⟨(j : Int) + 1, 2, -1, 1, -1, 1⟩
def soundUp (k : Nat) : List Blk := [⟨0, 1, 0, 0, -16, -1⟩] ++ (List.range k).map fun j => ⟨(j : Int) + 1, 1, 0, 0, -4, 0⟩
def imageB : List Blk := imageUp 3
def soundB : List Blk := soundUp 3

theorem imageUp_succ (k : Nat) : imageUp (k + 1) = imageUp k ++ [⟨(k : Int) + 1, 2, -1, 1, -1, 1⟩] := by simp [imageUp, List.range_succ]
theorem soundUp_succ (k : Nat) : soundUp (k + 1) = soundUp k ++ [⟨(k : Int) + 1, 1, 0, 0, -4, 0⟩] := by simp [soundUp, List.range_succ]

def blks (f d : Int) : List Blk := if May f d then (if f = 0 then imageB else soundB) else []

theorem Try.info61 : (Try.prog.info? 61).map (fun i => (i.zero, i.size, i.bytes)) = some (some (.agg #[.int .i64 0, .int .i64 0, .int .i64 0, .int .i64 0, .int .i64 0, .int .i64 0]), 6, 48) := by kernel_rfl

theorem info_parts {P : Program} {e : TypeId} {z : Value} {s b : Nat} (h : (P.info? e).map (fun i => (i.zero, i.size, i.bytes)) = some (some z, s, b)) :
    ∃ i, P.info? e = some i ∧ i.zero = some z ∧ i.size = s ∧ i.bytes = b := by
  cases hi : P.info? e with
  | none => rw [hi] at h; cases h
  | some i => rw [hi] at h; simp at h; exact ⟨i, rfl, h.1, h.2.1, h.2.2⟩

/-- What lies in a block that was just laid. -/
theorem cells_new (w : World) (cs : Array Value) (t : TypeId) : ∀ j u, cs.toList[j]? = some u → (w.alloc (.cells cs t)).cell? ((⟨w.heap.size, 0, none⟩ : Addr).add j) = some u := by
  intro j u h
  have hadd : (⟨w.heap.size, 0, none⟩ : Addr).add j = ⟨w.heap.size, j, none⟩ := by unfold Addr.add; split <;> simp_all
  rw [hadd, cell_of_row _ _ j cs t (0, 0) (heap_alloc_new w _)]
  simpa using h

theorem below_append {w wr w1 : World} {e : TypeId} {s n : Nat} {v : Value} {xs : List Value} {o : Obj} (hB : Below w.heap.size w wr) (hr : wr.ownsRow w.heap.size e s v n xs) (hg : (wr.alloc o).grownBy w1 v.ownBlock) : Below w.heap.size w w1 :=
  (hB.alloc hB.size o).grown hg (by have := hB.size; simp; omega) (fun k hk => (hr.lt k hk).1)

theorem other_append {w wr w1 : World} {e t : TypeId} {s n A : Nat} {v : Value} {xs : List Value} {o : Obj} {cs : Array Value} {fr : Nat × Nat} (hA : wr.heap[A]? = some (.cells cs t fr)) (hte : t ≠ e) (hr : wr.ownsRow w.heap.size e s v n xs) (hg : (wr.alloc o).grownBy w1 v.ownBlock) : w1.heap[A]? = some (.cells cs t fr) := by
  have hlt : A < wr.heap.size := (Array.getElem?_eq_some_iff.1 hA).1
  have h1 : (wr.alloc o).heap[A]? = some (.cells cs t fr) := (Below.heap_alloc wr o A hlt).trans hA
  refine (hg.block A (by simp; omega) (fun h => ?_)).trans h1
  rcases hr.2 with ⟨rfl, _⟩ | ⟨g, cap, cur, rfl, _, hgg, _⟩
  · simp [Value.ownBlock] at h
  · simp [Value.ownBlock] at h
    subst h
    rw [hA] at hgg
    simp at hgg
    exact hte hgg.2.1

set_option maxHeartbeats 2000000 in
theorem blocks_sound (d : Int) (w : World) (hm : May 1 d) :
    Calls Try.prog 41 #[.agg #[.int .i64 1, .int .i64 d]] w fun e w' => ∃ v, e = .returned v ∧ w'.ownsRow w.heap.size 61 6 v 4 (bcells soundB) ∧ Below w.heap.size w w' := by
  obtain ⟨i0, hi, hz0, hz1, hz2⟩ := info_parts Try.info61
  have hb := bel1 w (.cells #[.int .i64 1, .int .i64 d] 23)
  go_enter Try.func41, Try.ntmps41
  go_wp2_with (go_at_call 9; refine (check_ok _ _ _ hm).mono ?_; rintro e w2 ⟨rfl, hb2⟩; obtain ⟨hc2, hf2⟩ := bcell hb2)
  have HB2 := hide ((bel hb hb2).alloc (bel hb hb2).size (.cells #[.int .i64 0, .int .i64 1, .int .i64 0, .int .i64 0, .int .i64 (-16), .int .i64 (-1)] 61))
  have hr0 : (w2.alloc (.cells #[.int .i64 0, .int .i64 1, .int .i64 0, .int .i64 0, .int .i64 (-16), .int .i64 (-1)] 61)).ownsRow w.heap.size 61 6 (.slice (some ⟨w2.heap.size, 0, none⟩) 1 1) 1 (bcells (soundUp 0)) :=
    World.ownsRow_lit w2 #[.int .i64 0, .int .i64 1, .int .i64 0, .int .i64 0, .int .i64 (-16), .int .i64 (-1)] 1 (bel hb hb2).size (by decide) rfl
  have HR := hide hr0
  clear hr0 hb2 hc2 hf2 hb
  go_loopw [3, 4] (fun v i wr => ∃ k : Nat, k ≤ 3 ∧ i = .int .i64 ((k : Int) + 1) ∧ (∃ g cap, v = .slice (some ⟨g, 0, none⟩) (k + 1) cap) ∧ Hid (wr.ownsRow w.heap.size 61 6 v (k + 1) (bcells (soundUp k))) ∧ Hid (Below w.heap.size w wr)) (fun _ i _ => (4 - intOf i).toNat)
  case atStart => exact ⟨0, by omega, rfl, ⟨_, _, rfl⟩, HR, HB2⟩
  case round =>
    obtain ⟨k, hk, rfl, ⟨g, cap, rfl⟩, HR, HB⟩ := hrel
    by_cases hlt : k < 3
    · go_wp2_with (at_builtin; refine wpList_append_own _ rfl _ _ 58 rfl w.heap.size 61 i0 _ 6 48 Try.underlying58 hi hz0 hz1 hz2 rfl (by decide) _ _ _ rfl (HR.out.alloc _) ⟨wr.heap.size, 0, none⟩ 1 1 (Blk.cells ⟨(k : Int) + 1, 1, 0, 0, -4, 0⟩) rfl rfl (cells_new _ _ _) (by simp [Blk.cells, Value.oneCell']) (by unfold maxLen; omega) (by omega) (by have := HB.out.size; simp; omega) ?_; intro v' w1 hown' hgrow _; obtain ⟨g', cap', rfl⟩ := ownsRow_succ hown')
      go_roundw
      case rel => exact ⟨k + 1, by omega, by go_num, ⟨_, _, rfl⟩, hide (by rw [soundUp_succ, bcells_snoc]; exact hown'), hide (below_append HB.out HR.out hgrow)⟩
      case measure => simp [intOf]; omega
    · obtain rfl : k = 3 := by omega
      go_wp2
      go_ret
      exact ⟨_, rfl, HR.out, HB.out⟩


set_option maxHeartbeats 2000000 in
theorem blocks_image (d : Int) (w : World) (hm : May 0 d) :
    Calls Try.prog 41 #[.agg #[.int .i64 0, .int .i64 d]] w fun e w' => ∃ v, e = .returned v ∧ w'.ownsRow w.heap.size 61 6 v 5 (bcells imageB) ∧ Below w.heap.size w w' := by
  obtain ⟨i0, hi, hz0, hz1, hz2⟩ := info_parts Try.info61
  have hb := bel1 w (.cells #[.int .i64 0, .int .i64 d] 23)
  go_enter Try.func41, Try.ntmps41
  go_wp2_with (go_at_call 9; refine (check_ok _ _ _ hm).mono ?_; rintro e w2 ⟨rfl, hb2⟩; obtain ⟨hc2, hf2⟩ := bcell hb2)
  have HB1 := hide ((bel hb hb2).alloc (bel hb hb2).size (.cells #[.int .i64 0, .int .i64 2, .int .i64 (-2), .int .i64 (-1), .int .i64 (-3), .int .i64 3, .int .i64 0, .int .i64 2, .int .i64 0, .int .i64 0, .int .i64 (-3), .int .i64 (-1)] 61))
  have HB2 := hide (HB1.out.alloc HB1.out.size (.cells #[.int .i64 (-1), .int .i64 1] 37))
  have hr0 : (w2.alloc (.cells #[.int .i64 0, .int .i64 2, .int .i64 (-2), .int .i64 (-1), .int .i64 (-3), .int .i64 3, .int .i64 0, .int .i64 2, .int .i64 0, .int .i64 0, .int .i64 (-3), .int .i64 (-1)] 61)).ownsRow w.heap.size 61 6 (.slice (some ⟨w2.heap.size, 0, none⟩) 2 2) 2 (bcells (imageUp 0)) :=
    World.ownsRow_lit w2 #[.int .i64 0, .int .i64 2, .int .i64 (-2), .int .i64 (-1), .int .i64 (-3), .int .i64 3, .int .i64 0, .int .i64 2, .int .i64 0, .int .i64 0, .int .i64 (-3), .int .i64 (-1)] 2 (bel hb hb2).size (by decide) rfl
  have HR := hide (hr0.alloc (.cells #[.int .i64 (-1), .int .i64 1] 37))
  have HA : ((w2.alloc (.cells #[.int .i64 0, .int .i64 2, .int .i64 (-2), .int .i64 (-1), .int .i64 (-3), .int .i64 3, .int .i64 0, .int .i64 2, .int .i64 0, .int .i64 0, .int .i64 (-3), .int .i64 (-1)] 61)).alloc (.cells #[.int .i64 (-1), .int .i64 1] 37)).heap[w2.heap.size + 1]? = some (.cells #[.int .i64 (-1), .int .i64 1] 37 (0, 0)) := by
    have := heap_alloc_new (w2.alloc (.cells #[.int .i64 0, .int .i64 2, .int .i64 (-2), .int .i64 (-1), .int .i64 (-3), .int .i64 3, .int .i64 0, .int .i64 2, .int .i64 0, .int .i64 0, .int .i64 (-3), .int .i64 (-1)] 61)) (.cells #[.int .i64 (-1), .int .i64 1] 37)
    rwa [World.size_alloc] at this
  have HA := hide HA
  clear hr0 hb2 hc2 hf2 hb
  go_loopw [5, 7] (fun v i wr => ∃ k : Nat, k ≤ 3 ∧ i = .int .i64 ((k : Int) + 1) ∧ (∃ g cap, v = .slice (some ⟨g, 0, none⟩) (k + 2) cap) ∧ Hid (wr.ownsRow w.heap.size 61 6 v (k + 2) (bcells (imageUp k))) ∧ Hid (Below w.heap.size w wr) ∧ Hid (wr.heap[w2.heap.size + 1]? = some (.cells #[.int .i64 (-1), .int .i64 1] 37 (0, 0)))) (fun _ i _ => (4 - intOf i).toNat)
  case atStart => exact ⟨0, by omega, rfl, ⟨_, _, rfl⟩, HR, HB2, HA⟩
  case round =>
    obtain ⟨k, hk, rfl, ⟨g, cap, rfl⟩, HR, HB, HA⟩ := hrel
    have c0 := cell_of_row wr (w2.heap.size + 1) 0 _ 37 (0, 0) HA.out
    have c1 := cell_of_row wr (w2.heap.size + 1) 1 _ 37 (0, 0) HA.out
    simp at c0 c1
    by_cases hlt : k < 3
    · go_wp2_with (at_builtin; refine wpList_append_own _ rfl _ _ 58 rfl w.heap.size 61 i0 _ 6 48 Try.underlying58 hi hz0 hz1 hz2 rfl (by decide) _ _ _ rfl (HR.out.alloc _) ⟨wr.heap.size, 0, none⟩ 1 1 (Blk.cells ⟨(k : Int) + 1, 2, -1, 1, -1, 1⟩) rfl rfl (cells_new _ _ _) (by simp [Blk.cells, Value.oneCell']) (by unfold maxLen; omega) (by omega) (by have := HB.out.size; simp; omega) ?_; intro v' w1 hown' hgrow _; obtain ⟨g', cap', rfl⟩ := ownsRow_succ hown')
      go_roundw
      case rel => exact ⟨k + 1, by omega, by go_num, ⟨_, _, rfl⟩, hide (by rw [imageUp_succ, bcells_snoc]; exact hown'), hide (below_append HB.out HR.out hgrow), hide (other_append HA.out (by decide) HR.out hgrow)⟩
      case measure => simp [intOf]; omega
    · obtain rfl : k = 3 := by omega
      go_wp2
      go_ret
      exact ⟨_, rfl, HR.out, HB.out⟩

set_option maxHeartbeats 1000000 in
theorem blocks_none (f d : Int) (w : World) (hm : ¬ May f d) :
    Calls Try.prog 41 #[.agg #[.int .i64 f, .int .i64 d]] w fun e w' => e = .returned (.slice none 0 0) ∧ Below w.heap.size w w' := by
  have hb := bel1 w (.cells #[.int .i64 f, .int .i64 d] 23)
  go_enter Try.func41, Try.ntmps41
  go_wp2_with (go_at_call 9; refine (check_bad _ _ _ hm).mono ?_; rintro e w2 ⟨rfl, hb2⟩; obtain ⟨hc2, hf2⟩ := bcell hb2)
  go_ret
  exact ⟨rfl, bel hb hb2⟩

/-- All three: the rectangles of a kind. -/
theorem blocks_any (f d : Int) (w : World) :
    Calls Try.prog 41 #[.agg #[.int .i64 f, .int .i64 d]] w fun e w' => ∃ v, e = .returned v ∧ w'.ownsRow w.heap.size 61 6 v (blks f d).length (bcells (blks f d)) ∧ Below w.heap.size w w' := by
  rcases kind3 f d with ⟨hm, rfl⟩ | ⟨hm, rfl⟩ | hm
  · have e : blks 0 d = imageB := by simp [blks, hm]
    rw [e]
    exact blocks_image d w hm
  · have e : blks 1 d = soundB := by simp [blks, hm]
    rw [e]
    exact blocks_sound d w hm
  · have e : blks f d = [] := by simp [blks, hm]
    rw [e]
    exact (blocks_none f d w hm).mono fun e w' ⟨he, hb⟩ => ⟨_, he, World.ownsRow_nil _ _ _ _, hb⟩

end Go.Proofs.Ytinlknflkgijmaa
