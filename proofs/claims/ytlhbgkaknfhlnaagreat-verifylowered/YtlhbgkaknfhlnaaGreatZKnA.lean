/-
  The small functions of package kind, and the document's own: what each answers, for every kind; memory that was there stays.
-/
import Derived.Test.YtlhbgkaknfhlnaaGreatChecked
import Derived.WalkKit
import Derived.WalkSpells
import Derived.Laws.AppendOwn
import Derived.Laws.OwnMore
import Derived.OwnWalk
import Derived.RangeFuncBox
namespace Go.Proofs.YtlhbgkaknfhlnaaGreat.Knd
open Go.RowKit Go.IntWalk
set_option linter.unusedVariables false

theorem hide {p : Prop} (h : p) : Hid p := h

theorem bcell {W w1 : World} (hb : Below W.heap.size W w1) : (∀ b o, b < W.heap.size → w1.cell? ⟨b, o, none⟩ = W.cell? ⟨b, o, none⟩) ∧ (∀ b o, b < W.heap.size → w1.frozen? ⟨b, o, none⟩ = W.frozen? ⟨b, o, none⟩) :=
  ⟨fun b o h => hb.cell (p := ⟨b, o, none⟩) h, fun b o h => hb.frozen (p := ⟨b, o, none⟩) h⟩
theorem bel {w w1 w2 : World} (h : Below w.heap.size w w1) (k : Below w1.heap.size w1 w2) : Below w.heap.size w w2 := h.trans (k.mono h.size)
theorem bel1 (w : World) (o : Obj) : Below w.heap.size w (w.alloc o) := (Below.refl _ _).alloc (Nat.le_refl _) _
theorem ret_int {k : IntKind} {a b : Int} (h : a = b) : Ending.returned (.int k a) = .returned (.int k b) := by rw [h]

/-- The kind may be. -/
def May (f d : Int) : Prop := (f = 0 ∨ f = 1) ∧ 1 ≤ d ∧ d ≤ 16
instance (f d : Int) : Decidable (May f d) := by unfold May; infer_instance

theorem kind3 (f d : Int) : (May f d ∧ f = 0) ∨ (May f d ∧ f = 1) ∨ ¬ May f d := by
  by_cases h : May f d
  · rcases h.1 with h0 | h0
    · exact .inl ⟨h, h0⟩
    · exact .inr (.inl ⟨h, h0⟩)
  · exact .inr (.inr h)

/-- 2 to the n. -/
def pw (n : Int) : Int := 2 ^ n.toNat

theorem pw_le (n : Int) (h : n ≤ 16) : 1 ≤ pw n ∧ pw n ≤ 65536 := by
  unfold pw
  have h1 : n.toNat ≤ 16 := by omega
  have h2 : 2 ^ n.toNat ≤ 2 ^ 16 := Nat.pow_le_pow_right (by decide) h1
  have h3 : 0 < 2 ^ n.toNat := Nat.pow_pos (by decide)
  have e : ((2 : Int) ^ n.toNat) = ((2 ^ n.toNat : Nat) : Int) := by simp
  rw [e]
  omega

theorem pw_succ (n : Int) (h : 0 ≤ n) : pw (n + 1) = 2 * pw n := by
  unfold pw
  rw [show (n + 1).toNat = n.toNat + 1 by omega, Int.pow_succ]; omega

theorem pw_half (d : Int) (h : 1 ≤ d) : pw d = 2 * pw (d - 1) := by
  have := pw_succ (d - 1) (by omega); rw [show d - 1 + 1 = d by omega] at this; exact this

def lowZ (f d : Int) : Int := if May f d ∧ f = 1 then -pw (d - 1) else 0
def highZ (f d : Int) : Int := if May f d then (if f = 0 then 2 * pw (d - 1) - 1 else pw (d - 1) - 1) else 0
def borderZ (f d : Int) : Int := if May f d ∧ f = 0 then pw (d - 1) else 0
def countZ (f d : Int) : Int := if May f d then (if f = 0 then 44 else 31) else 0

theorem zs0 {d : Int} (h : May 0 d) : lowZ 0 d = 0 ∧ highZ 0 d = 2 * pw (d - 1) - 1 ∧ borderZ 0 d = pw (d - 1) ∧ countZ 0 d = 44 := by
  simp [lowZ, highZ, borderZ, countZ, h]
theorem zs1 {d : Int} (h : May 1 d) : lowZ 1 d = -pw (d - 1) ∧ highZ 1 d = pw (d - 1) - 1 ∧ borderZ 1 d = 0 ∧ countZ 1 d = 31 := by
  simp [lowZ, highZ, borderZ, countZ, h]
theorem zs2 {f d : Int} (h : ¬ May f d) : lowZ f d = 0 ∧ highZ f d = 0 ∧ borderZ f d = 0 ∧ countZ f d = 0 := by
  simp [lowZ, highZ, borderZ, countZ, h]

set_option maxRecDepth 100000 in
set_option maxHeartbeats 1000000 in
theorem check_ok (f d : Int) (w : World) (h : May f d) :
    Calls Tryz.prog 51 #[.agg #[.int .i64 f, .int .i64 d]] w fun e w' => e = .returned (.int .i64 0) ∧ Below w.heap.size w w' := by
  obtain ⟨hf, h1, h2⟩ := h
  have hb : Below w.heap.size w (w.alloc (.cells #[.int .i64 f, .int .i64 d] 23)) := (Below.refl _ _).alloc (Nat.le_refl _) _
  rcases hf with rfl | rfl
  · go_enter Tryz.func51, Tryz.ntmps51
    go_wp2
    go_ret
    exact ⟨rfl, hb⟩
  · go_enter Tryz.func51, Tryz.ntmps51
    go_wp2
    go_ret
    exact ⟨rfl, hb⟩

set_option maxRecDepth 100000 in
set_option maxHeartbeats 1000000 in
theorem check_bad (f d : Int) (w : World) (h : ¬ May f d) :
    Calls Tryz.prog 51 #[.agg #[.int .i64 f, .int .i64 d]] w fun e w' => e = .returned (.int .i64 1) ∧ Below w.heap.size w w' := by
  have hb : Below w.heap.size w (w.alloc (.cells #[.int .i64 f, .int .i64 d] 23)) := (Below.refl _ _).alloc (Nat.le_refl _) _
  by_cases h1 : f = 0
  · subst h1
    by_cases h2 : d < 1
    · go_enter Tryz.func51, Tryz.ntmps51
      go_wp2
      go_ret
      exact ⟨rfl, hb⟩
    · have h3 : 16 < d := by unfold May at h; omega
      go_enter Tryz.func51, Tryz.ntmps51
      go_wp2
      go_ret
      exact ⟨rfl, hb⟩
  · by_cases h4 : f = 1
    · subst h4
      by_cases h2 : d < 1
      · go_enter Tryz.func51, Tryz.ntmps51
        go_wp2
        go_ret
        exact ⟨rfl, hb⟩
      · have h3 : 16 < d := by unfold May at h; omega
        go_enter Tryz.func51, Tryz.ntmps51
        go_wp2
        go_ret
        exact ⟨rfl, hb⟩
    · have h5 : (f != 0) = true := by simp [h1]
      have h6 : (f != 1) = true := by simp [h4]
      go_enter Tryz.func51, Tryz.ntmps51
      go_wp2
      go_ret
      exact ⟨rfl, hb⟩

set_option maxRecDepth 100000 in
set_option maxHeartbeats 1000000 in
theorem half_any (f d : Int) (w : World) (h : May f d) :
    Calls Tryz.prog 99 #[.agg #[.int .i64 f, .int .i64 d]] w fun e w' => e = .returned (.int .i64 (pw (d - 1))) ∧ Below w.heap.size w w' := by
  obtain ⟨hf, h1, h2⟩ := h
  have HP := hide (pw_le (d - 1) (by omega))
  go_enter Tryz.func99, Tryz.ntmps99
  go_wp2
  go_ret
  refine ⟨ret_int ?_, bel1 _ _⟩
  have := HP.out
  unfold pw at this ⊢
  rw [show (d - 1).toNat = d.toNat - 1 by omega] at this ⊢
  exact wrap64_in _ ⟨by omega, by omega⟩


set_option maxRecDepth 100000 in
set_option maxHeartbeats 1000000 in
theorem low_any (f d : Int) (w : World) :
    Calls Tryz.prog 62 #[.agg #[.int .i64 f, .int .i64 d]] w fun e w' => e = .returned (.int .i64 (lowZ f d)) ∧ Below w.heap.size w w' := by
  rcases kind3 f d with ⟨hm, rfl⟩ | ⟨hm, rfl⟩ | hm
  · rw [(zs0 hm).1]
    have hb := bel1 w (.cells #[.int .i64 0, .int .i64 d] 23)
    go_enter Tryz.func62, Tryz.ntmps62
    go_wp2_with (go_at_call 51; refine (check_ok _ _ _ hm).mono ?_; rintro e w2 ⟨rfl, hb2⟩; obtain ⟨hc2, hf2⟩ := bcell hb2)
    go_ret
    exact ⟨rfl, bel hb hb2⟩
  · rw [(zs1 hm).1]
    have hb := bel1 w (.cells #[.int .i64 1, .int .i64 d] 23)
    obtain ⟨p1, p2⟩ := pw_le (d - 1) (by unfold May at hm; omega)
    go_enter Tryz.func62, Tryz.ntmps62
    go_wp2_with (first | (go_at_call 51; refine (check_ok _ _ _ hm).mono ?_; rintro e w2 ⟨rfl, hb2⟩; obtain ⟨hc2, hf2⟩ := bcell hb2) | (go_at_call 99; refine (half_any _ _ _ hm).mono ?_; rintro e w3 ⟨rfl, hb3⟩))
    go_ret
    exact ⟨rfl, bel (bel hb hb2) hb3⟩
  · rw [(zs2 hm).1]
    have hb := bel1 w (.cells #[.int .i64 f, .int .i64 d] 23)
    go_enter Tryz.func62, Tryz.ntmps62
    go_wp2_with (go_at_call 51; refine (check_bad _ _ _ hm).mono ?_; rintro e w2 ⟨rfl, hb2⟩; obtain ⟨hc2, hf2⟩ := bcell hb2)
    go_ret
    exact ⟨rfl, bel hb hb2⟩

set_option maxRecDepth 100000 in
set_option maxHeartbeats 1000000 in
theorem high_any (f d : Int) (w : World) :
    Calls Tryz.prog 63 #[.agg #[.int .i64 f, .int .i64 d]] w fun e w' => e = .returned (.int .i64 (highZ f d)) ∧ Below w.heap.size w w' := by
  rcases kind3 f d with ⟨hm, rfl⟩ | ⟨hm, rfl⟩ | hm
  · rw [(zs0 hm).2.1]
    have hb := bel1 w (.cells #[.int .i64 0, .int .i64 d] 23)
    obtain ⟨p1, p2⟩ := pw_le (d - 1) (by unfold May at hm; omega)
    go_enter Tryz.func63, Tryz.ntmps63
    go_wp2_with (first | (go_at_call 51; refine (check_ok _ _ _ hm).mono ?_; rintro e w2 ⟨rfl, hb2⟩; obtain ⟨hc2, hf2⟩ := bcell hb2) | (go_at_call 99; refine (half_any _ _ _ hm).mono ?_; rintro e w3 ⟨rfl, hb3⟩))
    go_ret
    exact ⟨rfl, bel (bel hb hb2) hb3⟩
  · rw [(zs1 hm).2.1]
    have hb := bel1 w (.cells #[.int .i64 1, .int .i64 d] 23)
    obtain ⟨p1, p2⟩ := pw_le (d - 1) (by unfold May at hm; omega)
    go_enter Tryz.func63, Tryz.ntmps63
    go_wp2_with (first | (go_at_call 51; refine (check_ok _ _ _ hm).mono ?_; rintro e w2 ⟨rfl, hb2⟩; obtain ⟨hc2, hf2⟩ := bcell hb2) | (go_at_call 99; refine (half_any _ _ _ hm).mono ?_; rintro e w3 ⟨rfl, hb3⟩))
    go_ret
    exact ⟨rfl, bel (bel hb hb2) hb3⟩
  · rw [(zs2 hm).2.1]
    have hb := bel1 w (.cells #[.int .i64 f, .int .i64 d] 23)
    go_enter Tryz.func63, Tryz.ntmps63
    go_wp2_with (go_at_call 51; refine (check_bad _ _ _ hm).mono ?_; rintro e w2 ⟨rfl, hb2⟩; obtain ⟨hc2, hf2⟩ := bcell hb2)
    go_ret
    exact ⟨rfl, bel hb hb2⟩

set_option maxRecDepth 100000 in
set_option maxHeartbeats 1000000 in
theorem border_any (f d : Int) (w : World) :
    Calls Tryz.prog 98 #[.agg #[.int .i64 f, .int .i64 d]] w fun e w' => e = .returned (.int .i64 (borderZ f d)) ∧ Below w.heap.size w w' := by
  rcases kind3 f d with ⟨hm, rfl⟩ | ⟨hm, rfl⟩ | hm
  · rw [(zs0 hm).2.2.1]
    have hb := bel1 w (.cells #[.int .i64 0, .int .i64 d] 23)
    obtain ⟨p1, p2⟩ := pw_le (d - 1) (by unfold May at hm; omega)
    go_enter Tryz.func98, Tryz.ntmps98
    go_wp2_with (first | (go_at_call 51; refine (check_ok _ _ _ hm).mono ?_; rintro e w2 ⟨rfl, hb2⟩; obtain ⟨hc2, hf2⟩ := bcell hb2) | (go_at_call 99; refine (half_any _ _ _ hm).mono ?_; rintro e w3 ⟨rfl, hb3⟩))
    go_ret
    exact ⟨rfl, bel (bel hb hb2) hb3⟩
  · rw [(zs1 hm).2.2.1]
    have hb := bel1 w (.cells #[.int .i64 1, .int .i64 d] 23)
    go_enter Tryz.func98, Tryz.ntmps98
    go_wp2_with (go_at_call 51; refine (check_ok _ _ _ hm).mono ?_; rintro e w2 ⟨rfl, hb2⟩; obtain ⟨hc2, hf2⟩ := bcell hb2)
    go_ret
    exact ⟨rfl, bel hb hb2⟩
  · rw [(zs2 hm).2.2.1]
    have hb := bel1 w (.cells #[.int .i64 f, .int .i64 d] 23)
    go_enter Tryz.func98, Tryz.ntmps98
    go_wp2_with (go_at_call 51; refine (check_bad _ _ _ hm).mono ?_; rintro e w2 ⟨rfl, hb2⟩; obtain ⟨hc2, hf2⟩ := bcell hb2)
    go_ret
    exact ⟨rfl, bel hb hb2⟩

set_option maxRecDepth 100000 in
set_option maxHeartbeats 1000000 in
theorem count_any (f d : Int) (w : World) :
    Calls Tryz.prog 34 #[.agg #[.int .i64 f, .int .i64 d]] w fun e w' => e = .returned (.int .i64 (countZ f d)) ∧ Below w.heap.size w w' := by
  rcases kind3 f d with ⟨hm, rfl⟩ | ⟨hm, rfl⟩ | hm
  · rw [(zs0 hm).2.2.2]
    have hb := bel1 w (.cells #[.int .i64 0, .int .i64 d] 23)
    go_enter Tryz.func34, Tryz.ntmps34
    go_wp2_with (go_at_call 51; refine (check_ok _ _ _ hm).mono ?_; rintro e w2 ⟨rfl, hb2⟩; obtain ⟨hc2, hf2⟩ := bcell hb2)
    go_ret
    exact ⟨rfl, bel hb hb2⟩
  · rw [(zs1 hm).2.2.2]
    have hb := bel1 w (.cells #[.int .i64 1, .int .i64 d] 23)
    go_enter Tryz.func34, Tryz.ntmps34
    go_wp2_with (go_at_call 51; refine (check_ok _ _ _ hm).mono ?_; rintro e w2 ⟨rfl, hb2⟩; obtain ⟨hc2, hf2⟩ := bcell hb2)
    go_ret
    exact ⟨rfl, bel hb hb2⟩
  · rw [(zs2 hm).2.2.2]
    have hb := bel1 w (.cells #[.int .i64 f, .int .i64 d] 23)
    go_enter Tryz.func34, Tryz.ntmps34
    go_wp2_with (go_at_call 51; refine (check_bad _ _ _ hm).mono ?_; rintro e w2 ⟨rfl, hb2⟩; obtain ⟨hc2, hf2⟩ := bcell hb2)
    go_ret
    exact ⟨rfl, bel hb hb2⟩

end Go.Proofs.YtlhbgkaknfhlnaaGreat.Knd

/-
  The walk of kind.blocks: which rectangles of places a kind has; they lie in memory of the call's own.
-/
namespace Go.Proofs.YtlhbgkaknfhlnaaGreat.Knd
open Go.RowKit
set_option linter.unusedVariables false

/-- A rectangle of places in one plane. -/
structure Blk where
  back : Int
  coords : Int
  y0 : Int
  y1 : Int
  x0 : Int
  x1 : Int

def Blk.cells (b : Blk) : List Value := [.int .i64 b.back, .int .i64 b.coords, .int .i64 b.y0, .int .i64 b.y1, .int .i64 b.x0, .int .i64 b.x1]
def bcells (l : List Blk) : List Value := l.flatMap Blk.cells

theorem bcells_snoc (l : List Blk) (b : Blk) : bcells (l ++ [b]) = bcells l ++ b.cells := by simp [bcells]

def imageUp (k : Nat) : List Blk := [⟨0, 2, -2, -1, -3, 3⟩, ⟨0, 2, 0, 0, -3, -1⟩] ++ (List.range k).map fun j => ⟨(j : Int) + 1, 2, -1, 1, -1, 1⟩
def soundUp (k : Nat) : List Blk := [⟨0, 1, 0, 0, -16, -1⟩] ++ (List.range k).map fun j => ⟨(j : Int) + 1, 1, 0, 0, -4, 0⟩
def imageB : List Blk := imageUp 3
def soundB : List Blk := soundUp 3

theorem imageUp_succ (k : Nat) : imageUp (k + 1) = imageUp k ++ [⟨(k : Int) + 1, 2, -1, 1, -1, 1⟩] := by simp [imageUp, List.range_succ]
theorem soundUp_succ (k : Nat) : soundUp (k + 1) = soundUp k ++ [⟨(k : Int) + 1, 1, 0, 0, -4, 0⟩] := by simp [soundUp, List.range_succ]

def blks (f d : Int) : List Blk := if May f d then (if f = 0 then imageB else soundB) else []

theorem Tryz.info162 : (Tryz.prog.info? 162).map (fun i => (i.zero, i.size, i.bytes)) = some (some (.agg #[.int .i64 0, .int .i64 0, .int .i64 0, .int .i64 0, .int .i64 0, .int .i64 0]), 6, 48) := by kernel_rfl

theorem info_parts {P : Program} {e : TypeId} {z : Value} {s b : Nat} (h : (P.info? e).map (fun i => (i.zero, i.size, i.bytes)) = some (some z, s, b)) :
    ∃ i, P.info? e = some i ∧ i.zero = some z ∧ i.size = s ∧ i.bytes = b := by
  cases hi : P.info? e with
  | none => rw [hi] at h; cases h
  | some i => rw [hi] at h; simp at h; exact ⟨i, rfl, h.1, h.2.1, h.2.2⟩

/-- What lies in a block that was just laid. -/
theorem cells_new (w : World) (cs : Array Value) (t : TypeId) : ∀ j u, cs.toList[j]? = some u → (w.alloc (.cells cs t)).cell? ((⟨w.heap.size, 0, none⟩ : Addr).add j) = some u := by
  intro j u h
  have hadd : (⟨w.heap.size, 0, none⟩ : Addr).add j = ⟨w.heap.size, j, none⟩ := by unfold Addr.add; split <;> simp_all
  rw [hadd, cell_of_row _ _ j cs t (0, 0) (heap_alloc_new w _)]
  simpa using h

theorem below_append {w wr w1 : World} {e : TypeId} {s n : Nat} {v : Value} {xs : List Value} {o : Obj} (hB : Below w.heap.size w wr) (hr : wr.ownsRow w.heap.size e s v n xs) (hg : (wr.alloc o).grownBy w1 v.ownBlock) : Below w.heap.size w w1 :=
  (hB.alloc hB.size o).grown hg (by have := hB.size; simp; omega) (fun k hk => (hr.lt k hk).1)

theorem other_append {w wr w1 : World} {e t : TypeId} {s n A : Nat} {v : Value} {xs : List Value} {o : Obj} {cs : Array Value} {fr : Nat × Nat} (hA : wr.heap[A]? = some (.cells cs t fr)) (hte : t ≠ e) (hr : wr.ownsRow w.heap.size e s v n xs) (hg : (wr.alloc o).grownBy w1 v.ownBlock) : w1.heap[A]? = some (.cells cs t fr) := by
  have hlt : A < wr.heap.size := (Array.getElem?_eq_some_iff.1 hA).1
  have h1 : (wr.alloc o).heap[A]? = some (.cells cs t fr) := (Below.heap_alloc wr o A hlt).trans hA
  refine (hg.block A (by simp; omega) (fun h => ?_)).trans h1
  rcases hr.2 with ⟨rfl, _⟩ | ⟨g, cap, cur, rfl, _, hgg, _⟩
  · simp [Value.ownBlock] at h
  · simp [Value.ownBlock] at h
    subst h
    rw [hA] at hgg
    simp at hgg
    exact hte hgg.2.1

set_option maxRecDepth 100000 in
set_option maxHeartbeats 2000000 in
theorem blocks_sound (d : Int) (w : World) (hm : May 1 d) :
    Calls Tryz.prog 143 #[.agg #[.int .i64 1, .int .i64 d]] w fun e w' => ∃ v, e = .returned v ∧ w'.ownsRow w.heap.size 162 6 v 4 (bcells soundB) ∧ Below w.heap.size w w' := by
  obtain ⟨i0, hi, hz0, hz1, hz2⟩ := info_parts Tryz.info162
  have hb := bel1 w (.cells #[.int .i64 1, .int .i64 d] 23)
  go_enter Tryz.func143, Tryz.ntmps143
  go_wp2_with (go_at_call 51; refine (check_ok _ _ _ hm).mono ?_; rintro e w2 ⟨rfl, hb2⟩; obtain ⟨hc2, hf2⟩ := bcell hb2)
  have HB2 := hide ((bel hb hb2).alloc (bel hb hb2).size (.cells #[.int .i64 0, .int .i64 1, .int .i64 0, .int .i64 0, .int .i64 (-16), .int .i64 (-1)] 162))
  have hr0 : (w2.alloc (.cells #[.int .i64 0, .int .i64 1, .int .i64 0, .int .i64 0, .int .i64 (-16), .int .i64 (-1)] 162)).ownsRow w.heap.size 162 6 (.slice (some ⟨w2.heap.size, 0, none⟩) 1 1) 1 (bcells (soundUp 0)) :=
    World.ownsRow_lit w2 #[.int .i64 0, .int .i64 1, .int .i64 0, .int .i64 0, .int .i64 (-16), .int .i64 (-1)] 1 (bel hb hb2).size (by decide) rfl
  have HR := hide hr0
  clear hr0 hb2 hc2 hf2 hb
  go_loopw [3, 4] (fun v i wr => ∃ k : Nat, k ≤ 3 ∧ i = .int .i64 ((k : Int) + 1) ∧ (∃ g cap, v = .slice (some ⟨g, 0, none⟩) (k + 1) cap) ∧ Hid (wr.ownsRow w.heap.size 162 6 v (k + 1) (bcells (soundUp k))) ∧ Hid (Below w.heap.size w wr)) (fun _ i _ => (4 - intOf i).toNat)
  case atStart => exact ⟨0, by omega, rfl, ⟨_, _, rfl⟩, HR, HB2⟩
  case round =>
    obtain ⟨k, hk, rfl, ⟨g, cap, rfl⟩, HR, HB⟩ := hrel
    by_cases hlt : k < 3
    · go_wp2_with (at_builtin; refine wpList_append_own _ rfl _ _ 159 rfl w.heap.size 162 i0 _ 6 48 Tryz.underlying159 hi hz0 hz1 hz2 rfl (by decide) _ _ _ rfl (HR.out.alloc _) ⟨wr.heap.size, 0, none⟩ 1 1 (Blk.cells ⟨(k : Int) + 1, 1, 0, 0, -4, 0⟩) rfl rfl (cells_new _ _ _) (by simp [Blk.cells, Value.oneCell']) (by unfold maxLen; omega) (by omega) (by have := HB.out.size; simp; omega) ?_; intro v' w1 hown' hgrow _; obtain ⟨g', cap', rfl⟩ := ownsRow_succ hown')
      go_roundw
      case rel => exact ⟨k + 1, by omega, by go_num, ⟨_, _, rfl⟩, hide (by rw [soundUp_succ, bcells_snoc]; exact hown'), hide (below_append HB.out HR.out hgrow)⟩
      case measure => simp [intOf]; omega
    · obtain rfl : k = 3 := by omega
      go_wp2
      go_ret
      exact ⟨_, rfl, HR.out, HB.out⟩


set_option maxRecDepth 100000 in
set_option maxHeartbeats 2000000 in
theorem blocks_image (d : Int) (w : World) (hm : May 0 d) :
    Calls Tryz.prog 143 #[.agg #[.int .i64 0, .int .i64 d]] w fun e w' => ∃ v, e = .returned v ∧ w'.ownsRow w.heap.size 162 6 v 5 (bcells imageB) ∧ Below w.heap.size w w' := by
  obtain ⟨i0, hi, hz0, hz1, hz2⟩ := info_parts Tryz.info162
  have hb := bel1 w (.cells #[.int .i64 0, .int .i64 d] 23)
  go_enter Tryz.func143, Tryz.ntmps143
  go_wp2_with (go_at_call 51; refine (check_ok _ _ _ hm).mono ?_; rintro e w2 ⟨rfl, hb2⟩; obtain ⟨hc2, hf2⟩ := bcell hb2)
  have HB1 := hide ((bel hb hb2).alloc (bel hb hb2).size (.cells #[.int .i64 0, .int .i64 2, .int .i64 (-2), .int .i64 (-1), .int .i64 (-3), .int .i64 3, .int .i64 0, .int .i64 2, .int .i64 0, .int .i64 0, .int .i64 (-3), .int .i64 (-1)] 162))
  have HB2 := hide (HB1.out.alloc HB1.out.size (.cells #[.int .i64 (-1), .int .i64 1] 40))
  have hr0 : (w2.alloc (.cells #[.int .i64 0, .int .i64 2, .int .i64 (-2), .int .i64 (-1), .int .i64 (-3), .int .i64 3, .int .i64 0, .int .i64 2, .int .i64 0, .int .i64 0, .int .i64 (-3), .int .i64 (-1)] 162)).ownsRow w.heap.size 162 6 (.slice (some ⟨w2.heap.size, 0, none⟩) 2 2) 2 (bcells (imageUp 0)) :=
    World.ownsRow_lit w2 #[.int .i64 0, .int .i64 2, .int .i64 (-2), .int .i64 (-1), .int .i64 (-3), .int .i64 3, .int .i64 0, .int .i64 2, .int .i64 0, .int .i64 0, .int .i64 (-3), .int .i64 (-1)] 2 (bel hb hb2).size (by decide) rfl
  have HR := hide (hr0.alloc (.cells #[.int .i64 (-1), .int .i64 1] 40))
  have HA : ((w2.alloc (.cells #[.int .i64 0, .int .i64 2, .int .i64 (-2), .int .i64 (-1), .int .i64 (-3), .int .i64 3, .int .i64 0, .int .i64 2, .int .i64 0, .int .i64 0, .int .i64 (-3), .int .i64 (-1)] 162)).alloc (.cells #[.int .i64 (-1), .int .i64 1] 40)).heap[w2.heap.size + 1]? = some (.cells #[.int .i64 (-1), .int .i64 1] 40 (0, 0)) := by
    have := heap_alloc_new (w2.alloc (.cells #[.int .i64 0, .int .i64 2, .int .i64 (-2), .int .i64 (-1), .int .i64 (-3), .int .i64 3, .int .i64 0, .int .i64 2, .int .i64 0, .int .i64 0, .int .i64 (-3), .int .i64 (-1)] 162)) (.cells #[.int .i64 (-1), .int .i64 1] 40)
    rwa [World.size_alloc] at this
  have HA := hide HA
  clear hr0 hb2 hc2 hf2 hb
  go_loopw [5, 7] (fun v i wr => ∃ k : Nat, k ≤ 3 ∧ i = .int .i64 ((k : Int) + 1) ∧ (∃ g cap, v = .slice (some ⟨g, 0, none⟩) (k + 2) cap) ∧ Hid (wr.ownsRow w.heap.size 162 6 v (k + 2) (bcells (imageUp k))) ∧ Hid (Below w.heap.size w wr) ∧ Hid (wr.heap[w2.heap.size + 1]? = some (.cells #[.int .i64 (-1), .int .i64 1] 40 (0, 0)))) (fun _ i _ => (4 - intOf i).toNat)
  case atStart => exact ⟨0, by omega, rfl, ⟨_, _, rfl⟩, HR, HB2, HA⟩
  case round =>
    obtain ⟨k, hk, rfl, ⟨g, cap, rfl⟩, HR, HB, HA⟩ := hrel
    have c0 := cell_of_row wr (w2.heap.size + 1) 0 _ 40 (0, 0) HA.out
    have c1 := cell_of_row wr (w2.heap.size + 1) 1 _ 40 (0, 0) HA.out
    simp at c0 c1
    by_cases hlt : k < 3
    · go_wp2_with (at_builtin; refine wpList_append_own _ rfl _ _ 159 rfl w.heap.size 162 i0 _ 6 48 Tryz.underlying159 hi hz0 hz1 hz2 rfl (by decide) _ _ _ rfl (HR.out.alloc _) ⟨wr.heap.size, 0, none⟩ 1 1 (Blk.cells ⟨(k : Int) + 1, 2, -1, 1, -1, 1⟩) rfl rfl (cells_new _ _ _) (by simp [Blk.cells, Value.oneCell']) (by unfold maxLen; omega) (by omega) (by have := HB.out.size; simp; omega) ?_; intro v' w1 hown' hgrow _; obtain ⟨g', cap', rfl⟩ := ownsRow_succ hown')
      go_roundw
      case rel => exact ⟨k + 1, by omega, by go_num, ⟨_, _, rfl⟩, hide (by rw [imageUp_succ, bcells_snoc]; exact hown'), hide (below_append HB.out HR.out hgrow), hide (other_append HA.out (by decide) HR.out hgrow)⟩
      case measure => simp [intOf]; omega
    · obtain rfl : k = 3 := by omega
      go_wp2
      go_ret
      exact ⟨_, rfl, HR.out, HB.out⟩

set_option maxRecDepth 100000 in
set_option maxHeartbeats 1000000 in
theorem blocks_none (f d : Int) (w : World) (hm : ¬ May f d) :
    Calls Tryz.prog 143 #[.agg #[.int .i64 f, .int .i64 d]] w fun e w' => e = .returned (.slice none 0 0) ∧ Below w.heap.size w w' := by
  have hb := bel1 w (.cells #[.int .i64 f, .int .i64 d] 23)
  go_enter Tryz.func143, Tryz.ntmps143
  go_wp2_with (go_at_call 51; refine (check_bad _ _ _ hm).mono ?_; rintro e w2 ⟨rfl, hb2⟩; obtain ⟨hc2, hf2⟩ := bcell hb2)
  go_ret
  exact ⟨rfl, bel hb hb2⟩

/-- All three: the rectangles of a kind. -/
theorem blocks_any (f d : Int) (w : World) :
    Calls Tryz.prog 143 #[.agg #[.int .i64 f, .int .i64 d]] w fun e w' => ∃ v, e = .returned v ∧ w'.ownsRow w.heap.size 162 6 v (blks f d).length (bcells (blks f d)) ∧ Below w.heap.size w w' := by
  rcases kind3 f d with ⟨hm, rfl⟩ | ⟨hm, rfl⟩ | hm
  · have e : blks 0 d = imageB := by simp [blks, hm]
    rw [e]
    exact blocks_image d w hm
  · have e : blks 1 d = soundB := by simp [blks, hm]
    rw [e]
    exact blocks_sound d w hm
  · have e : blks f d = [] := by simp [blks, hm]
    rw [e]
    exact (blocks_none f d w hm).mono fun e w' ⟨he, hb⟩ => ⟨_, he, World.ownsRow_nil _ _ _ _, hb⟩

end Go.Proofs.YtlhbgkaknfhlnaaGreat.Knd

/-
  The places of a kind, by their numbers: plain lists.
-/
namespace Go.Proofs.YtlhbgkaknfhlnaaGreat.Knd
open Go.RowKit
set_option linter.unusedVariables false

structure Plc where
  back : Int
  coords : Int
  x : Int
  y : Int
  deriving DecidableEq

def Blk.rows (b : Blk) : Nat := (b.y1 + 1 - b.y0).toNat
def Blk.cols (b : Blk) : Nat := (b.x1 + 1 - b.x0).toNat
def Blk.pls (b : Blk) : List Plc := (List.range b.rows).flatMap fun (t : Nat) => (List.range b.cols).map fun (s : Nat) => (⟨b.back, b.coords, b.x0 + (s : Int), b.y0 + (t : Int)⟩ : Plc)
def plsAll (l : List Blk) : List Plc := l.flatMap Blk.pls
/-- How many places the first j rectangles have. -/
def cnt (l : List Blk) (j : Nat) : Nat := (plsAll (l.take j)).length
/-- The places of a kind. -/
def plcs (f d : Int) : List Plc := plsAll (blks f d)

theorem range_flat_len (n m : Nat) (g : Nat → List Plc) (h : ∀ t, (g t).length = m) : ((List.range n).flatMap g).length = n * m := by
  induction n with
  | zero => simp
  | succ n ih => rw [List.range_succ, List.flatMap_append, List.length_append, ih]; simp [h, Nat.succ_mul]

theorem range_flat_at (n m : Nat) (g : Nat → List Plc) (h : ∀ t, (g t).length = m) (t s : Nat) (ht : t < n) (hs : s < m) : ((List.range n).flatMap g)[t * m + s]? = (g t)[s]? := by
  induction n with
  | zero => omega
  | succ n ih =>
    rw [List.range_succ, List.flatMap_append]
    have hl := range_flat_len n m g h
    by_cases e : t < n
    · have : t * m + s < n * m := by
        have : (t + 1) * m ≤ n * m := Nat.mul_le_mul_right m e
        rw [Nat.succ_mul] at this; omega
      rw [List.getElem?_append_left (by omega)]
      exact ih e
    · obtain rfl : t = n := by omega
      rw [List.getElem?_append_right (by omega), hl]
      simp [Nat.add_sub_cancel_left]

theorem Blk.pls_len (b : Blk) : b.pls.length = b.rows * b.cols := range_flat_len _ _ _ (by simp)
theorem Blk.pls_at (b : Blk) (t s : Nat) (ht : t < b.rows) (hs : s < b.cols) : b.pls[t * b.cols + s]? = some ⟨b.back, b.coords, b.x0 + (s : Int), b.y0 + (t : Int)⟩ := by
  rw [Blk.pls, range_flat_at _ _ _ (by simp) t s ht hs]
  simp [hs]

theorem cnt_succ (l : List Blk) (j : Nat) (h : j < l.length) : cnt l (j + 1) = cnt l j + l[j].rows * l[j].cols := by
  unfold cnt plsAll
  rw [List.take_succ_eq_append_getElem h, List.flatMap_append, List.length_append]
  simp [Blk.pls_len]

theorem cnt_all (l : List Blk) : cnt l l.length = (plsAll l).length := by unfold cnt; rw [List.take_length]

theorem cnt_mono (l : List Blk) (j : Nat) (h : j ≤ l.length) : cnt l j ≤ (plsAll l).length := by
  unfold cnt plsAll
  conv => rhs; rw [← List.take_append_drop j l]
  rw [List.flatMap_append, List.length_append]; omega

theorem plsAll_at (l : List Blk) (j t s : Nat) (h : j < l.length) (ht : t < l[j].rows) (hs : s < l[j].cols) :
    (plsAll l)[cnt l j + (t * l[j].cols + s)]? = some ⟨l[j].back, l[j].coords, l[j].x0 + (s : Int), l[j].y0 + (t : Int)⟩ := by
  have e0 : l = l.take j ++ (l[j] :: l.drop (j + 1)) := by rw [← List.drop_eq_getElem_cons h, List.take_append_drop]
  have e : plsAll l = plsAll (l.take j) ++ (l[j].pls ++ plsAll (l.drop (j + 1))) := (congrArg plsAll e0).trans (by simp only [plsAll, List.flatMap_append, List.flatMap_cons])
  have hlt : t * l[j].cols + s < l[j].pls.length := by
    rw [Blk.pls_len]
    have : (t + 1) * l[j].cols ≤ l[j].rows * l[j].cols := Nat.mul_le_mul_right _ ht
    rw [Nat.succ_mul] at this; omega
  rw [e, List.getElem?_append_right (by unfold cnt; omega)]
  unfold cnt
  rw [Nat.add_sub_cancel_left, List.getElem?_append_left hlt]
  exact Blk.pls_at _ t s ht hs

theorem bcells_at (l : List Blk) (j i : Nat) (h : j < l.length) (hi : i < 6) : (bcells l)[j * 6 + i]? = l[j].cells[i]? := by
  induction l generalizing j with
  | nil => simp at h
  | cons b l ih =>
    have hb : b.cells.length = 6 := rfl
    have e : bcells (b :: l) = b.cells ++ bcells l := by simp [bcells]
    cases j with
    | zero => rw [e, List.getElem?_append_left (by omega)]; simp
    | succ j =>
      rw [e, List.getElem?_append_right (by omega), hb, show (j + 1) * 6 + i - 6 = j * 6 + i by omega]
      exact ih j (by simpa using h)

/-- The first k numbers. -/
def upto (k : Nat) : List (Fin 64) := (List.finRange 64).take k

theorem upto_len (k : Nat) (h : k ≤ 64) : (upto k).length = k := by simp [upto]; omega
theorem upto_succ (k : Nat) (h : k < 64) : upto (k + 1) = upto k ++ [⟨k, h⟩] := by
  unfold upto
  rw [List.take_succ_eq_append_getElem (by simpa using h)]
  simp
theorem upto_mem (k : Nat) (i : Fin 64) : i ∈ upto k ↔ i.val < k := by
  unfold upto
  rw [List.mem_take_iff_getElem]
  constructor
  · rintro ⟨j, hj, rfl⟩
    simp at hj ⊢
    omega
  · intro h
    exact ⟨i.val, by simp; omega, by simp⟩

/-- What the rectangles of every kind keep to. -/
theorem blks_bound (f d : Int) : (plcs f d).length < 64 ∧ (blks f d).length ≤ 5 ∧ ∀ b ∈ blks f d, 0 ≤ b.back ∧ b.back ≤ 3 ∧ -16 ≤ b.x0 ∧ b.x0 ≤ b.x1 ∧ b.x1 ≤ 3 ∧ -2 ≤ b.y0 ∧ b.y0 ≤ b.y1 ∧ b.y1 ≤ 1 := by
  unfold plcs
  rcases kind3 f d with ⟨hm, rfl⟩ | ⟨hm, rfl⟩ | hm
  · have e : blks 0 d = imageB := by simp [blks, hm]
    rw [e]; decide
  · have e : blks 1 d = soundB := by simp [blks, hm]
    rw [e]; decide
  · have e : blks f d = [] := by simp [blks, hm]
    rw [e]; decide

theorem plcs_len (f d : Int) : ((plcs f d).length : Int) = countZ f d := by
  unfold plcs
  rcases kind3 f d with ⟨hm, rfl⟩ | ⟨hm, rfl⟩ | hm
  · have e : blks 0 d = imageB := by simp [blks, hm]
    rw [e, (zs0 hm).2.2.2]; decide
  · have e : blks 1 d = soundB := by simp [blks, hm]
    rw [e, (zs1 hm).2.2.2]; decide
  · have e : blks f d = [] := by simp [blks, hm]
    rw [e, (zs2 hm).2.2.2]; decide

end Go.Proofs.YtlhbgkaknfhlnaaGreat.Knd
