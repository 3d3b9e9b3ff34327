/-
  The small functions of package kind, and the document's own: what each answers, for every kind; memory that was there stays.
-/
import Derived.Test.YtihbhbeaihdgnaaGreatChecked
import Derived.WalkKit
import Derived.WalkSpells
import Derived.Laws.AppendOwn
import Derived.Laws.OwnMore
import Derived.OwnWalk
namespace Go.Proofs.YtihbhbeaihdgnaaGreat.Knd
open Go.RowKit Go.IntWalk
set_option linter.unusedVariables false

theorem hide {p : Prop} (h : p) : Hid p := h

theorem bcell {W w1 : World} (hb : Below W.heap.size W w1) : (∀ b o, b < W.heap.size → w1.cell? ⟨b, o, none⟩ = W.cell? ⟨b, o, none⟩) ∧ (∀ b o, b < W.heap.size → w1.frozen? ⟨b, o, none⟩ = W.frozen? ⟨b, o, none⟩) :=
  ⟨fun b o h => hb.cell (p := ⟨b, o, none⟩) h, fun b o h => hb.frozen (p := ⟨b, o, none⟩) h⟩
theorem bel {w w1 w2 : World} (h : Below w.heap.size w w1) (k : Below w1.heap.size w1 w2) : Below w.heap.size w w2 := h.trans (k.mono h.size)
theorem bel1 (w : World) (o : Obj) : Below w.heap.size w (w.alloc o) := (Below.refl _ _).alloc (Nat.le_refl _) _
theorem ret_int {k : IntKind} {a b : Int} (h : a = b) : Ending.returned (.int k a) = .returned (.int k b) := by rw [h]

/-- The kind may be. -/
def May (f d : Int) : Prop := (f = 0 ∨ f = 1) ∧ 1 ≤ d ∧ d ≤ 16
instance (f d : Int) : Decidable (May f d) := by unfold May; infer_instance

theorem kind3 (f d : Int) : (May f d ∧ f = 0) ∨ (May f d ∧ f = 1) ∨ ¬ May f d := by
  by_cases h : May f d
  · rcases h.1 with h0 | h0
    · exact .inl ⟨h, h0⟩
    · exact .inr (.inl ⟨h, h0⟩)
  · exact .inr (.inr h)

/-- 2 to the n. -/
def pw (n : Int) : Int := 2 ^ n.toNat

theorem pw_le (n : Int) (h : n ≤ 16) : 1 ≤ pw n ∧ pw n ≤ 65536 := by
  unfold pw
  have h1 : n.toNat ≤ 16 := by omega
  have h2 : 2 ^ n.toNat ≤ 2 ^ 16 := Nat.pow_le_pow_right (by decide) h1
  have h3 : 0 < 2 ^ n.toNat := Nat.pow_pos (by decide)
  have e : ((2 : Int) ^ n.toNat) = ((2 ^ n.toNat : Nat) : Int) := by simp
  rw [e]
  omega

theorem pw_succ (n : Int) (h : 0 ≤ n) : pw (n + 1) = 2 * pw n := by
  unfold pw
  rw [show (n + 1).toNat = n.toNat + 1 by omega, Int.pow_succ]; omega

theorem pw_half (d : Int) (h : 1 ≤ d) : pw d = 2 * pw (d - 1) := by
  have := pw_succ (d - 1) (by omega); rw [show d - 1 + 1 = d by omega] at this; exact this

def lowZ (f d : Int) : Int := if May f d ∧ f = 1 then -pw (d - 1) else 0
def highZ (f d : Int) : Int := if May f d then (if f = 0 then 2 * pw (d - 1) - 1 else pw (d - 1) - 1) else 0
def borderZ (f d : Int) : Int := if May f d ∧ f = 0 then pw (d - 1) else 0
def countZ (f d : Int) : Int := if May f d then (if f = 0 then 44 else 31) else 0

theorem zs0 {d : Int} (h : May 0 d) : lowZ 0 d = 0 ∧ highZ 0 d = 2 * pw (d - 1) - 1 ∧ borderZ 0 d = pw (d - 1) ∧ countZ 0 d = 44 := by
  simp [lowZ, highZ, borderZ, countZ, h]
theorem zs1 {d : Int} (h : May 1 d) : lowZ 1 d = -pw (d - 1) ∧ highZ 1 d = pw (d - 1) - 1 ∧ borderZ 1 d = 0 ∧ countZ 1 d = 31 := by
  simp [lowZ, highZ, borderZ, countZ, h]
theorem zs2 {f d : Int} (h : ¬ May f d) : lowZ f d = 0 ∧ highZ f d = 0 ∧ borderZ f d = 0 ∧ countZ f d = 0 := by
  simp [lowZ, highZ, borderZ, countZ, h]

set_option maxRecDepth 100000 in
set_option maxHeartbeats 1000000 in
theorem check_ok (f d : Int) (w : World) (h : May f d) :
    Calls Tryz.prog 101 #[.agg #[.int .i64 f, .int .i64 d]] w fun e w' => e = .returned (.int .i64 0) ∧ Below w.heap.size w w' := by
  obtain ⟨hf, h1, h2⟩ := h
  have hb : Below w.heap.size w (w.alloc (.cells #[.int .i64 f, .int .i64 d] 23)) := (Below.refl _ _).alloc (Nat.le_refl _) _
  rcases hf with rfl | rfl
  · go_enter Tryz.func101, Tryz.ntmps101
    go_wp2
    go_ret
    exact ⟨rfl, hb⟩
  · go_enter Tryz.func101, Tryz.ntmps101
    go_wp2
    go_ret
    exact ⟨rfl, hb⟩

set_option maxRecDepth 100000 in
set_option maxHeartbeats 1000000 in
theorem check_bad (f d : Int) (w : World) (h : ¬ May f d) :
    Calls Tryz.prog 101 #[.agg #[.int .i64 f, .int .i64 d]] w fun e w' => e = .returned (.int .i64 1) ∧ Below w.heap.size w w' := by
  have hb : Below w.heap.size w (w.alloc (.cells #[.int .i64 f, .int .i64 d] 23)) := (Below.refl _ _).alloc (Nat.le_refl _) _
  by_cases h1 : f = 0
  · subst h1
    by_cases h2 : d < 1
    · go_enter Tryz.func101, Tryz.ntmps101
      go_wp2
      go_ret
      exact ⟨rfl, hb⟩
    · have h3 : 16 < d := by unfold May at h; omega
      go_enter Tryz.func101, Tryz.ntmps101
      go_wp2
      go_ret
      exact ⟨rfl, hb⟩
  · by_cases h4 : f = 1
    · subst h4
      by_cases h2 : d < 1
      · go_enter Tryz.func101, Tryz.ntmps101
        go_wp2
        go_ret
        exact ⟨rfl, hb⟩
      · have h3 : 16 < d := by unfold May at h; omega
        go_enter Tryz.func101, Tryz.ntmps101
        go_wp2
        go_ret
        exact ⟨rfl, hb⟩
    · have h5 : (f != 0) = true := by simp [h1]
      have h6 : (f != 1) = true := by simp [h4]
      go_enter Tryz.func101, Tryz.ntmps101
      go_wp2
      go_ret
      exact ⟨rfl, hb⟩

set_option maxRecDepth 100000 in
set_option maxHeartbeats 1000000 in
theorem half_any (f d : Int) (w : World) (h : May f d) :
    Calls Tryz.prog 102 #[.agg #[.int .i64 f, .int .i64 d]] w fun e w' => e = .returned (.int .i64 (pw (d - 1))) ∧ Below w.heap.size w w' := by
  obtain ⟨hf, h1, h2⟩ := h
  have HP := hide (pw_le (d - 1) (by omega))
  go_enter Tryz.func102, Tryz.ntmps102
  go_wp2
  go_ret
  refine ⟨ret_int ?_, bel1 _ _⟩
  have := HP.out
  unfold pw at this ⊢
  rw [show (d - 1).toNat = d.toNat - 1 by omega] at this ⊢
  exact wrap64_in _ ⟨by omega, by omega⟩


set_option maxRecDepth 100000 in
set_option maxHeartbeats 1000000 in
theorem low_any (f d : Int) (w : World) :
    Calls Tryz.prog 57 #[.agg #[.int .i64 f, .int .i64 d]] w fun e w' => e = .returned (.int .i64 (lowZ f d)) ∧ Below w.heap.size w w' := by
  rcases kind3 f d with ⟨hm, rfl⟩ | ⟨hm, rfl⟩ | hm
  · rw [(zs0 hm).1]
    have hb := bel1 w (.cells #[.int .i64 0, .int .i64 d] 23)
    go_enter Tryz.func57, Tryz.ntmps57
    go_wp2_with (go_at_call 101; refine (check_ok _ _ _ hm).mono ?_; rintro e w2 ⟨rfl, hb2⟩; obtain ⟨hc2, hf2⟩ := bcell hb2)
    go_ret
    exact ⟨rfl, bel hb hb2⟩
  · rw [(zs1 hm).1]
    have hb := bel1 w (.cells #[.int .i64 1, .int .i64 d] 23)
    obtain ⟨p1, p2⟩ := pw_le (d - 1) (by unfold May at hm; omega)
    go_enter Tryz.func57, Tryz.ntmps57
    go_wp2_with (first | (go_at_call 101; refine (check_ok _ _ _ hm).mono ?_; rintro e w2 ⟨rfl, hb2⟩; obtain ⟨hc2, hf2⟩ := bcell hb2) | (go_at_call 102; refine (half_any _ _ _ hm).mono ?_; rintro e w3 ⟨rfl, hb3⟩))
    go_ret
    exact ⟨rfl, bel (bel hb hb2) hb3⟩
  · rw [(zs2 hm).1]
    have hb := bel1 w (.cells #[.int .i64 f, .int .i64 d] 23)
    go_enter Tryz.func57, Tryz.ntmps57
    go_wp2_with (go_at_call 101; refine (check_bad _ _ _ hm).mono ?_; rintro e w2 ⟨rfl, hb2⟩; obtain ⟨hc2, hf2⟩ := bcell hb2)
    go_ret
    exact ⟨rfl, bel hb hb2⟩

set_option maxRecDepth 100000 in
set_option maxHeartbeats 1000000 in
theorem high_any (f d : Int) (w : World) :
    Calls Tryz.prog 58 #[.agg #[.int .i64 f, .int .i64 d]] w fun e w' => e = .returned (.int .i64 (highZ f d)) ∧ Below w.heap.size w w' := by
  rcases kind3 f d with ⟨hm, rfl⟩ | ⟨hm, rfl⟩ | hm
  · rw [(zs0 hm).2.1]
    have hb := bel1 w (.cells #[.int .i64 0, .int .i64 d] 23)
    obtain ⟨p1, p2⟩ := pw_le (d - 1) (by unfold May at hm; omega)
    go_enter Tryz.func58, Tryz.ntmps58
    go_wp2_with (first | (go_at_call 101; refine (check_ok _ _ _ hm).mono ?_; rintro e w2 ⟨rfl, hb2⟩; obtain ⟨hc2, hf2⟩ := bcell hb2) | (go_at_call 102; refine (half_any _ _ _ hm).mono ?_; rintro e w3 ⟨rfl, hb3⟩))
    go_ret
    exact ⟨rfl, bel (bel hb hb2) hb3⟩
  · rw [(zs1 hm).2.1]
    have hb := bel1 w (.cells #[.int .i64 1, .int .i64 d] 23)
    obtain ⟨p1, p2⟩ := pw_le (d - 1) (by unfold May at hm; omega)
    go_enter Tryz.func58, Tryz.ntmps58
    go_wp2_with (first | (go_at_call 101; refine (check_ok _ _ _ hm).mono ?_; rintro e w2 ⟨rfl, hb2⟩; obtain ⟨hc2, hf2⟩ := bcell hb2) | (go_at_call 102; refine (half_any _ _ _ hm).mono ?_; rintro e w3 ⟨rfl, hb3⟩))
    go_ret
    exact ⟨rfl, bel (bel hb hb2) hb3⟩
  · rw [(zs2 hm).2.1]
    have hb := bel1 w (.cells #[.int .i64 f, .int .i64 d] 23)
    go_enter Tryz.func58, Tryz.ntmps58
    go_wp2_with (go_at_call 101; refine (check_bad _ _ _ hm).mono ?_; rintro e w2 ⟨rfl, hb2⟩; obtain ⟨hc2, hf2⟩ := bcell hb2)
    go_ret
    exact ⟨rfl, bel hb hb2⟩

set_option maxRecDepth 100000 in
set_option maxHeartbeats 1000000 in
theorem border_any (f d : Int) (w : World) :
    Calls Tryz.prog 84 #[.agg #[.int .i64 f, .int .i64 d]] w fun e w' => e = .returned (.int .i64 (borderZ f d)) ∧ Below w.heap.size w w' := by
  rcases kind3 f d with ⟨hm, rfl⟩ | ⟨hm, rfl⟩ | hm
  · rw [(zs0 hm).2.2.1]
    have hb := bel1 w (.cells #[.int .i64 0, .int .i64 d] 23)
    obtain ⟨p1, p2⟩ := pw_le (d - 1) (by unfold May at hm; omega)
    go_enter Tryz.func84, Tryz.ntmps84
    go_wp2_with (first | (go_at_call 101; refine (check_ok _ _ _ hm).mono ?_; rintro e w2 ⟨rfl, hb2⟩; obtain ⟨hc2, hf2⟩ := bcell hb2) | (go_at_call 102; refine (half_any _ _ _ hm).mono ?_; rintro e w3 ⟨rfl, hb3⟩))
    go_ret
    exact ⟨rfl, bel (bel hb hb2) hb3⟩
  · rw [(zs1 hm).2.2.1]
    have hb := bel1 w (.cells #[.int .i64 1, .int .i64 d] 23)
    go_enter Tryz.func84, Tryz.ntmps84
    go_wp2_with (go_at_call 101; refine (check_ok _ _ _ hm).mono ?_; rintro e w2 ⟨rfl, hb2⟩; obtain ⟨hc2, hf2⟩ := bcell hb2)
    go_ret
    exact ⟨rfl, bel hb hb2⟩
  · rw [(zs2 hm).2.2.1]
    have hb := bel1 w (.cells #[.int .i64 f, .int .i64 d] 23)
    go_enter Tryz.func84, Tryz.ntmps84
    go_wp2_with (go_at_call 101; refine (check_bad _ _ _ hm).mono ?_; rintro e w2 ⟨rfl, hb2⟩; obtain ⟨hc2, hf2⟩ := bcell hb2)
    go_ret
    exact ⟨rfl, bel hb hb2⟩

set_option maxRecDepth 100000 in
set_option maxHeartbeats 1000000 in
theorem count_any (f d : Int) (w : World) :
    Calls Tryz.prog 56 #[.agg #[.int .i64 f, .int .i64 d]] w fun e w' => e = .returned (.int .i64 (countZ f d)) ∧ Below w.heap.size w w' := by
  rcases kind3 f d with ⟨hm, rfl⟩ | ⟨hm, rfl⟩ | hm
  · rw [(zs0 hm).2.2.2]
    have hb := bel1 w (.cells #[.int .i64 0, .int .i64 d] 23)
    go_enter Tryz.func56, Tryz.ntmps56
    go_wp2_with (go_at_call 101; refine (check_ok _ _ _ hm).mono ?_; rintro e w2 ⟨rfl, hb2⟩; obtain ⟨hc2, hf2⟩ := bcell hb2)
    go_ret
    exact ⟨rfl, bel hb hb2⟩
  · rw [(zs1 hm).2.2.2]
    have hb := bel1 w (.cells #[.int .i64 1, .int .i64 d] 23)
    go_enter Tryz.func56, Tryz.ntmps56
    go_wp2_with (go_at_call 101; refine (check_ok _ _ _ hm).mono ?_; rintro e w2 ⟨rfl, hb2⟩; obtain ⟨hc2, hf2⟩ := bcell hb2)
    go_ret
    exact ⟨rfl, bel hb hb2⟩
  · rw [(zs2 hm).2.2.2]
    have hb := bel1 w (.cells #[.int .i64 f, .int .i64 d] 23)
    go_enter Tryz.func56, Tryz.ntmps56
    go_wp2_with (go_at_call 101; refine (check_bad _ _ _ hm).mono ?_; rintro e w2 ⟨rfl, hb2⟩; obtain ⟨hc2, hf2⟩ := bcell hb2)
    go_ret
    exact ⟨rfl, bel hb hb2⟩

end Go.Proofs.YtihbhbeaihdgnaaGreat.Knd

/-
  Blocks and their cells.
-/
namespace Go.Proofs.YtihbhbeaihdgnaaGreat.Knd
open Go.RowKit
set_option linter.unusedVariables false

/-- The block b holds just these cells. -/
def HasC (W : World) (b : Nat) (t : TypeId) (cs : Array Value) : Prop := W.heap[b]? = some (.cells cs t (0, 0))

theorem HasC.lt {W : World} {b : Nat} {t : TypeId} {cs : Array Value} (h : HasC W b t cs) : b < W.heap.size := (Array.getElem?_eq_some_iff.1 h).1
theorem HasC.new (W : World) (t : TypeId) (cs : Array Value) : HasC (W.alloc (.cells cs t)) W.heap.size t cs := heap_alloc_new W _
theorem HasC.kept {W W' : World} {row : Option Nat} {b : Nat} {t : TypeId} {cs : Array Value} (h : HasC W b t cs) (hg : W.grownBy W' row) (hne : some b ≠ row) : HasC W' b t cs := (hg.block b h.lt hne).trans h
theorem HasC.alloc {W : World} {b : Nat} {t : TypeId} {cs : Array Value} (h : HasC W b t cs) (o : Obj) : HasC (W.alloc o) b t cs := h.kept (World.grownBy_alloc W o none) (by simp)
theorem HasC.below {W W' : World} {b : Nat} {t : TypeId} {cs : Array Value} (h : HasC W b t cs) (hb : Below W.heap.size W W') : HasC W' b t cs := (hb.block b h.lt).trans h
theorem HasC.cell {W : World} {b : Nat} {t : TypeId} {cs : Array Value} (h : HasC W b t cs) (i : Nat) {v : Value} (hv : cs[i]? = some v) : W.cell? ⟨b, i, none⟩ = some v := (cell_of_row W b i cs t (0, 0) h).trans hv
theorem HasC.frozen {W : World} {b : Nat} {t : TypeId} {cs : Array Value} (h : HasC W b t cs) (i : Nat) : W.frozen? ⟨b, i, none⟩ = false := by
  simp [World.frozen?, show W.heap[b]? = _ from h]
theorem HasC.other {W : World} {b : Nat} {t : TypeId} {cs : Array Value} (h : HasC W b t cs) {p : Addr} (hne : b ≠ p.block) (u : Value) : HasC (W.setCell p u) b t cs := (Below.heap_setCell W p u b hne).trans h
theorem HasC.set {W : World} {b : Nat} {t : TypeId} {cs : Array Value} (h : HasC W b t cs) (i : Nat) (u : Value) : HasC (W.setCell ⟨b, i, none⟩ u) b t (cs.setIfInBounds i u) := by
  obtain ⟨hlt, hk⟩ := Array.getElem?_eq_some_iff.1 h
  show (W.heap.modify b _)[b]? = _
  rw [Array.getElem?_eq_getElem (by rw [Array.size_modify]; exact hlt), Array.getElem_modify_self, hk]
  rfl
end Go.Proofs.YtihbhbeaihdgnaaGreat.Knd

/-
  The walks of kind.Input and what it calls, and of kind.lies.
-/
namespace Go.Proofs.YtihbhbeaihdgnaaGreat.Knd
open Go.RowKit
set_option linter.unusedVariables false

def colZ (f : Int) : Int := if f = 0 then 4096 else 1048576
def rowZ (f : Int) : Int := if f = 0 then 4096 else 1

set_option maxRecDepth 100000 in
set_option maxHeartbeats 1000000 in
theorem columns_any (f d : Int) (w : World) :
    Calls Tryz.prog 135 #[.agg #[.int .i64 f, .int .i64 d]] w fun e w' => e = .returned (.int .i64 (colZ f)) ∧ Below w.heap.size w w' := by
  have hb := bel1 w (.cells #[.int .i64 f, .int .i64 d] 23)
  by_cases h : f = 0
  · subst h
    go_enter Tryz.func135, Tryz.ntmps135
    go_wp2
    go_ret
    exact ⟨rfl, hb⟩
  · go_enter Tryz.func135, Tryz.ntmps135
    go_wp2
    go_ret
    exact ⟨ret_int (by simp [colZ, h]), hb⟩

set_option maxRecDepth 100000 in
set_option maxHeartbeats 1000000 in
theorem rows_any (f d : Int) (w : World) :
    Calls Tryz.prog 136 #[.agg #[.int .i64 f, .int .i64 d]] w fun e w' => e = .returned (.int .i64 (rowZ f)) ∧ Below w.heap.size w w' := by
  have hb := bel1 w (.cells #[.int .i64 f, .int .i64 d] 23)
  by_cases h : f = 0
  · subst h
    go_enter Tryz.func136, Tryz.ntmps136
    go_wp2
    go_ret
    exact ⟨rfl, hb⟩
  · go_enter Tryz.func136, Tryz.ntmps136
    go_wp2
    go_ret
    exact ⟨ret_int (by simp [rowZ, h]), hb⟩

set_option maxRecDepth 100000 in
set_option maxHeartbeats 1000000 in
theorem only_any (n : Int) (w : World) :
    Calls Tryz.prog 137 #[.int .i64 n] w fun e w' => e = .returned (.agg #[.int .i64 n, .int .i64 n]) ∧ Below w.heap.size w w' := by
  go_enter Tryz.func137, Tryz.ntmps137
  go_wp2
  exact bodyPost_ret (v := .agg #[.int .i64 n, .int .i64 n]) (by simp [results, Tryz.results137, go_sem]) rfl ⟨rfl, bel1 _ _⟩

/-- Between what an input lies, if there is one. -/
def inZ (f d n : Int) : Option (Int × Int) :=
  if ¬ May f d then none else
  if n = 0 then some (0, colZ f - 1) else
  if n = 1 then some (0, rowZ f - 1) else
  if n = 2 then some (0, 3) else
  if n = 3 then some (lowZ f d, lowZ f d) else
  if n = 4 then some (highZ f d, highZ f d) else
  if n = 5 then some (borderZ f d, borderZ f d) else none
def inV (f d n : Int) : Value := .tuple #[.agg #[.int .i64 ((inZ f d n).getD (0, 0)).1, .int .i64 ((inZ f d n).getD (0, 0)).2], .bool (inZ f d n).isSome]

theorem facts2 {W : World} {b : Nat} {t : TypeId} {x y : Value} (h : HasC W b t #[x, y]) : W.cell? ⟨b, 0, none⟩ = some x ∧ W.cell? ⟨b, 1, none⟩ = some y ∧ W.frozen? ⟨b, 0, none⟩ = false ∧ W.frozen? ⟨b, 1, none⟩ = false :=
  ⟨h.cell 0 rfl, h.cell 1 rfl, h.frozen 0, h.frozen 1⟩

/-- The end of a walk whose answer lies in a cell of its own: two stores. -/
theorem stored2 {w w2 : World} {b : Nat} (h : HasC w2 b 74 #[.int .i64 0, .int .i64 0]) (hB : Below w.heap.size w w2) (hb : w.heap.size ≤ b) (x y : Int) :
    ((w2.setCell ⟨b, 0, none⟩ (.int .i64 x)).setCell ⟨b, 1, none⟩ (.int .i64 y)).cell? ⟨b, 0, none⟩ = some (.int .i64 x) ∧ ((w2.setCell ⟨b, 0, none⟩ (.int .i64 x)).setCell ⟨b, 1, none⟩ (.int .i64 y)).cell? ⟨b, 1, none⟩ = some (.int .i64 y) ∧
    Below w.heap.size w ((w2.setCell ⟨b, 0, none⟩ (.int .i64 x)).setCell ⟨b, 1, none⟩ (.int .i64 y)) := by
  have h3 := (h.set 0 (.int .i64 x)).set 1 (.int .i64 y)
  exact ⟨h3.cell 0 rfl, h3.cell 1 rfl, (hB.setCell (p := ⟨b, 0, none⟩) hb _).setCell (p := ⟨b, 1, none⟩) hb _⟩

set_option maxRecDepth 100000 in
set_option maxHeartbeats 2000000 in
theorem input_bad (f d n : Int) (hm : ¬ May f d) (w : World) :
    Calls Tryz.prog 100 #[.agg #[.int .i64 f, .int .i64 d], .int .i64 n] w fun e w' => e = .returned (inV f d n) ∧ Below w.heap.size w w' := by
  have HB1 := hide ((bel1 w (.cells #[.int .i64 f, .int .i64 d] 23)).alloc (by simp) (.cells #[.int .i64 0, .int .i64 0] 74))
  have hR : HasC ((w.alloc (.cells #[.int .i64 f, .int .i64 d] 23)).alloc (.cells #[.int .i64 0, .int .i64 0] 74)) (w.heap.size + 1) 74 #[.int .i64 0, .int .i64 0] := by
    have := HasC.new (w.alloc (.cells #[.int .i64 f, .int .i64 d] 23)) 74 #[.int .i64 0, .int .i64 0]
    rwa [World.size_alloc] at this
  have HR1 := hide hR
  have HK1 := hide ((HasC.new w 23 #[.int .i64 f, .int .i64 d]).alloc (.cells #[.int .i64 0, .int .i64 0] 74))
  clear hR
  have e : inV f d n = .tuple #[.agg #[.int .i64 (0), .int .i64 (0)], .bool false] := by simp [inV, inZ, hm]
  rw [e]
  clear e
  go_enter Tryz.func100, Tryz.ntmps100
  go_wp2_with (first
    | (go_at_call 101; refine (check_bad _ _ _ hm).mono ?_; rintro e w2 ⟨rfl, hb2⟩; have HR2 := hide (HR1.out.below hb2); have HK2 := hide (HK1.out.below hb2); have HB2 := hide (bel HB1.out hb2); clear hb2; obtain ⟨s2, t2, u2, v2⟩ := facts2 HR2.out; obtain ⟨x2, y2, -, -⟩ := facts2 HK2.out))
  obtain ⟨c0, c1, hB⟩ := stored2 HR2.out HB2.out (by omega) (0) (0)
  exact bodyPost_ret (v := .tuple #[.agg #[.int .i64 (0), .int .i64 (0)], .bool false]) (by simp [results, Tryz.results100, go_sem, c0, c1]) rfl ⟨rfl, hB⟩

set_option maxRecDepth 100000 in
set_option maxHeartbeats 2000000 in
theorem input0 (f d : Int) (hm : May f d) (w : World) :
    Calls Tryz.prog 100 #[.agg #[.int .i64 f, .int .i64 d], .int .i64 0] w fun e w' => e = .returned (inV f d 0) ∧ Below w.heap.size w w' := by
  have HB1 := hide ((bel1 w (.cells #[.int .i64 f, .int .i64 d] 23)).alloc (by simp) (.cells #[.int .i64 0, .int .i64 0] 74))
  have hR : HasC ((w.alloc (.cells #[.int .i64 f, .int .i64 d] 23)).alloc (.cells #[.int .i64 0, .int .i64 0] 74)) (w.heap.size + 1) 74 #[.int .i64 0, .int .i64 0] := by
    have := HasC.new (w.alloc (.cells #[.int .i64 f, .int .i64 d] 23)) 74 #[.int .i64 0, .int .i64 0]
    rwa [World.size_alloc] at this
  have HR1 := hide hR
  have HK1 := hide ((HasC.new w 23 #[.int .i64 f, .int .i64 d]).alloc (.cells #[.int .i64 0, .int .i64 0] 74))
  clear hR
  have e : inV f d 0 = .tuple #[.agg #[.int .i64 (0), .int .i64 (colZ f - 1)], .bool true] := by simp [inV, inZ, hm]
  rw [e]
  clear e
  obtain ⟨p1, p2⟩ : 0 ≤ colZ f ∧ colZ f ≤ 1048576 := by unfold colZ; split <;> omega
  go_enter Tryz.func100, Tryz.ntmps100
  go_wp2_with (first
    | (go_at_call 101; refine (check_ok _ _ _ hm).mono ?_; rintro e w2 ⟨rfl, hb2⟩; have HR2 := hide (HR1.out.below hb2); have HK2 := hide (HK1.out.below hb2); have HB2 := hide (bel HB1.out hb2); clear hb2; obtain ⟨s2, t2, u2, v2⟩ := facts2 HR2.out; obtain ⟨x2, y2, -, -⟩ := facts2 HK2.out)
    | (go_at_call 135; refine (columns_any _ _ _).mono ?_; rintro e w3 ⟨rfl, hb3⟩; have HR3 := hide (HR2.out.below hb3); have HK3 := hide (HK2.out.below hb3); have HB3 := hide (bel HB2.out hb3); clear hb3; obtain ⟨s3, t3, u3, v3⟩ := facts2 HR3.out; obtain ⟨x3, y3, -, -⟩ := facts2 HK3.out))
  obtain ⟨c0, c1, hB⟩ := stored2 HR3.out HB3.out (by omega) (0) (colZ f - 1)
  exact bodyPost_ret (v := .tuple #[.agg #[.int .i64 (0), .int .i64 (colZ f - 1)], .bool true]) (by simp [results, Tryz.results100, go_sem, c0, c1]) rfl ⟨rfl, hB⟩

set_option maxRecDepth 100000 in
set_option maxHeartbeats 2000000 in
theorem input1 (f d : Int) (hm : May f d) (w : World) :
    Calls Tryz.prog 100 #[.agg #[.int .i64 f, .int .i64 d], .int .i64 1] w fun e w' => e = .returned (inV f d 1) ∧ Below w.heap.size w w' := by
  have HB1 := hide ((bel1 w (.cells #[.int .i64 f, .int .i64 d] 23)).alloc (by simp) (.cells #[.int .i64 0, .int .i64 0] 74))
  have hR : HasC ((w.alloc (.cells #[.int .i64 f, .int .i64 d] 23)).alloc (.cells #[.int .i64 0, .int .i64 0] 74)) (w.heap.size + 1) 74 #[.int .i64 0, .int .i64 0] := by
    have := HasC.new (w.alloc (.cells #[.int .i64 f, .int .i64 d] 23)) 74 #[.int .i64 0, .int .i64 0]
    rwa [World.size_alloc] at this
  have HR1 := hide hR
  have HK1 := hide ((HasC.new w 23 #[.int .i64 f, .int .i64 d]).alloc (.cells #[.int .i64 0, .int .i64 0] 74))
  clear hR
  have e : inV f d 1 = .tuple #[.agg #[.int .i64 (0), .int .i64 (rowZ f - 1)], .bool true] := by simp [inV, inZ, hm]
  rw [e]
  clear e
  obtain ⟨p1, p2⟩ : 0 ≤ rowZ f ∧ rowZ f ≤ 1048576 := by unfold rowZ; split <;> omega
  go_enter Tryz.func100, Tryz.ntmps100
  go_wp2_with (first
    | (go_at_call 101; refine (check_ok _ _ _ hm).mono ?_; rintro e w2 ⟨rfl, hb2⟩; have HR2 := hide (HR1.out.below hb2); have HK2 := hide (HK1.out.below hb2); have HB2 := hide (bel HB1.out hb2); clear hb2; obtain ⟨s2, t2, u2, v2⟩ := facts2 HR2.out; obtain ⟨x2, y2, -, -⟩ := facts2 HK2.out)
    | (go_at_call 136; refine (rows_any _ _ _).mono ?_; rintro e w3 ⟨rfl, hb3⟩; have HR3 := hide (HR2.out.below hb3); have HK3 := hide (HK2.out.below hb3); have HB3 := hide (bel HB2.out hb3); clear hb3; obtain ⟨s3, t3, u3, v3⟩ := facts2 HR3.out; obtain ⟨x3, y3, -, -⟩ := facts2 HK3.out))
  obtain ⟨c0, c1, hB⟩ := stored2 HR3.out HB3.out (by omega) (0) (rowZ f - 1)
  exact bodyPost_ret (v := .tuple #[.agg #[.int .i64 (0), .int .i64 (rowZ f - 1)], .bool true]) (by simp [results, Tryz.results100, go_sem, c0, c1]) rfl ⟨rfl, hB⟩

set_option maxRecDepth 100000 in
set_option maxHeartbeats 2000000 in
theorem input2 (f d : Int) (hm : May f d) (w : World) :
    Calls Tryz.prog 100 #[.agg #[.int .i64 f, .int .i64 d], .int .i64 2] w fun e w' => e = .returned (inV f d 2) ∧ Below w.heap.size w w' := by
  have HB1 := hide ((bel1 w (.cells #[.int .i64 f, .int .i64 d] 23)).alloc (by simp) (.cells #[.int .i64 0, .int .i64 0] 74))
  have hR : HasC ((w.alloc (.cells #[.int .i64 f, .int .i64 d] 23)).alloc (.cells #[.int .i64 0, .int .i64 0] 74)) (w.heap.size + 1) 74 #[.int .i64 0, .int .i64 0] := by
    have := HasC.new (w.alloc (.cells #[.int .i64 f, .int .i64 d] 23)) 74 #[.int .i64 0, .int .i64 0]
    rwa [World.size_alloc] at this
  have HR1 := hide hR
  have HK1 := hide ((HasC.new w 23 #[.int .i64 f, .int .i64 d]).alloc (.cells #[.int .i64 0, .int .i64 0] 74))
  clear hR
  have e : inV f d 2 = .tuple #[.agg #[.int .i64 (0), .int .i64 (3)], .bool true] := by simp [inV, inZ, hm]
  rw [e]
  clear e
  go_enter Tryz.func100, Tryz.ntmps100
  go_wp2_with (first
    | (go_at_call 101; refine (check_ok _ _ _ hm).mono ?_; rintro e w2 ⟨rfl, hb2⟩; have HR2 := hide (HR1.out.below hb2); have HK2 := hide (HK1.out.below hb2); have HB2 := hide (bel HB1.out hb2); clear hb2; obtain ⟨s2, t2, u2, v2⟩ := facts2 HR2.out; obtain ⟨x2, y2, -, -⟩ := facts2 HK2.out))
  obtain ⟨c0, c1, hB⟩ := stored2 HR2.out HB2.out (by omega) (0) (3)
  exact bodyPost_ret (v := .tuple #[.agg #[.int .i64 (0), .int .i64 (3)], .bool true]) (by simp [results, Tryz.results100, go_sem, c0, c1]) rfl ⟨rfl, hB⟩

set_option maxRecDepth 100000 in
set_option maxHeartbeats 2000000 in
theorem input3 (f d : Int) (hm : May f d) (w : World) :
    Calls Tryz.prog 100 #[.agg #[.int .i64 f, .int .i64 d], .int .i64 3] w fun e w' => e = .returned (inV f d 3) ∧ Below w.heap.size w w' := by
  have HB1 := hide ((bel1 w (.cells #[.int .i64 f, .int .i64 d] 23)).alloc (by simp) (.cells #[.int .i64 0, .int .i64 0] 74))
  have hR : HasC ((w.alloc (.cells #[.int .i64 f, .int .i64 d] 23)).alloc (.cells #[.int .i64 0, .int .i64 0] 74)) (w.heap.size + 1) 74 #[.int .i64 0, .int .i64 0] := by
    have := HasC.new (w.alloc (.cells #[.int .i64 f, .int .i64 d] 23)) 74 #[.int .i64 0, .int .i64 0]
    rwa [World.size_alloc] at this
  have HR1 := hide hR
  have HK1 := hide ((HasC.new w 23 #[.int .i64 f, .int .i64 d]).alloc (.cells #[.int .i64 0, .int .i64 0] 74))
  clear hR
  have e : inV f d 3 = .tuple #[.agg #[.int .i64 (lowZ f d), .int .i64 (lowZ f d)], .bool true] := by simp [inV, inZ, hm]
  rw [e]
  clear e
  go_enter Tryz.func100, Tryz.ntmps100
  go_wp2_with (first
    | (go_at_call 101; refine (check_ok _ _ _ hm).mono ?_; rintro e w2 ⟨rfl, hb2⟩; have HR2 := hide (HR1.out.below hb2); have HK2 := hide (HK1.out.below hb2); have HB2 := hide (bel HB1.out hb2); clear hb2; obtain ⟨s2, t2, u2, v2⟩ := facts2 HR2.out; obtain ⟨x2, y2, -, -⟩ := facts2 HK2.out)
    | (go_at_call 57; refine (low_any _ _ _).mono ?_; rintro e w3 ⟨rfl, hb3⟩; have HR3 := hide (HR2.out.below hb3); have HK3 := hide (HK2.out.below hb3); have HB3 := hide (bel HB2.out hb3); clear hb3; obtain ⟨s3, t3, u3, v3⟩ := facts2 HR3.out; obtain ⟨x3, y3, -, -⟩ := facts2 HK3.out)
    | (go_at_call 137; refine (only_any _ _).mono ?_; rintro e w4 ⟨rfl, hb4⟩; have HR4 := hide (HR3.out.below hb4); have HK4 := hide (HK3.out.below hb4); have HB4 := hide (bel HB3.out hb4); clear hb4; obtain ⟨s4, t4, u4, v4⟩ := facts2 HR4.out; obtain ⟨x4, y4, -, -⟩ := facts2 HK4.out))
  obtain ⟨c0, c1, hB⟩ := stored2 HR4.out HB4.out (by omega) (lowZ f d) (lowZ f d)
  exact bodyPost_ret (v := .tuple #[.agg #[.int .i64 (lowZ f d), .int .i64 (lowZ f d)], .bool true]) (by simp [results, Tryz.results100, go_sem, c0, c1]) rfl ⟨rfl, hB⟩

set_option maxRecDepth 100000 in
set_option maxHeartbeats 2000000 in
theorem input4 (f d : Int) (hm : May f d) (w : World) :
    Calls Tryz.prog 100 #[.agg #[.int .i64 f, .int .i64 d], .int .i64 4] w fun e w' => e = .returned (inV f d 4) ∧ Below w.heap.size w w' := by
  have HB1 := hide ((bel1 w (.cells #[.int .i64 f, .int .i64 d] 23)).alloc (by simp) (.cells #[.int .i64 0, .int .i64 0] 74))
  have hR : HasC ((w.alloc (.cells #[.int .i64 f, .int .i64 d] 23)).alloc (.cells #[.int .i64 0, .int .i64 0] 74)) (w.heap.size + 1) 74 #[.int .i64 0, .int .i64 0] := by
    have := HasC.new (w.alloc (.cells #[.int .i64 f, .int .i64 d] 23)) 74 #[.int .i64 0, .int .i64 0]
    rwa [World.size_alloc] at this
  have HR1 := hide hR
  have HK1 := hide ((HasC.new w 23 #[.int .i64 f, .int .i64 d]).alloc (.cells #[.int .i64 0, .int .i64 0] 74))
  clear hR
  have e : inV f d 4 = .tuple #[.agg #[.int .i64 (highZ f d), .int .i64 (highZ f d)], .bool true] := by simp [inV, inZ, hm]
  rw [e]
  clear e
  go_enter Tryz.func100, Tryz.ntmps100
  go_wp2_with (first
    | (go_at_call 101; refine (check_ok _ _ _ hm).mono ?_; rintro e w2 ⟨rfl, hb2⟩; have HR2 := hide (HR1.out.below hb2); have HK2 := hide (HK1.out.below hb2); have HB2 := hide (bel HB1.out hb2); clear hb2; obtain ⟨s2, t2, u2, v2⟩ := facts2 HR2.out; obtain ⟨x2, y2, -, -⟩ := facts2 HK2.out)
    | (go_at_call 58; refine (high_any _ _ _).mono ?_; rintro e w3 ⟨rfl, hb3⟩; have HR3 := hide (HR2.out.below hb3); have HK3 := hide (HK2.out.below hb3); have HB3 := hide (bel HB2.out hb3); clear hb3; obtain ⟨s3, t3, u3, v3⟩ := facts2 HR3.out; obtain ⟨x3, y3, -, -⟩ := facts2 HK3.out)
    | (go_at_call 137; refine (only_any _ _).mono ?_; rintro e w4 ⟨rfl, hb4⟩; have HR4 := hide (HR3.out.below hb4); have HK4 := hide (HK3.out.below hb4); have HB4 := hide (bel HB3.out hb4); clear hb4; obtain ⟨s4, t4, u4, v4⟩ := facts2 HR4.out; obtain ⟨x4, y4, -, -⟩ := facts2 HK4.out))
  obtain ⟨c0, c1, hB⟩ := stored2 HR4.out HB4.out (by omega) (highZ f d) (highZ f d)
  exact bodyPost_ret (v := .tuple #[.agg #[.int .i64 (highZ f d), .int .i64 (highZ f d)], .bool true]) (by simp [results, Tryz.results100, go_sem, c0, c1]) rfl ⟨rfl, hB⟩

set_option maxRecDepth 100000 in
set_option maxHeartbeats 2000000 in
theorem input5 (f d : Int) (hm : May f d) (w : World) :
    Calls Tryz.prog 100 #[.agg #[.int .i64 f, .int .i64 d], .int .i64 5] w fun e w' => e = .returned (inV f d 5) ∧ Below w.heap.size w w' := by
  have HB1 := hide ((bel1 w (.cells #[.int .i64 f, .int .i64 d] 23)).alloc (by simp) (.cells #[.int .i64 0, .int .i64 0] 74))
  have hR : HasC ((w.alloc (.cells #[.int .i64 f, .int .i64 d] 23)).alloc (.cells #[.int .i64 0, .int .i64 0] 74)) (w.heap.size + 1) 74 #[.int .i64 0, .int .i64 0] := by
    have := HasC.new (w.alloc (.cells #[.int .i64 f, .int .i64 d] 23)) 74 #[.int .i64 0, .int .i64 0]
    rwa [World.size_alloc] at this
  have HR1 := hide hR
  have HK1 := hide ((HasC.new w 23 #[.int .i64 f, .int .i64 d]).alloc (.cells #[.int .i64 0, .int .i64 0] 74))
  clear hR
  have e : inV f d 5 = .tuple #[.agg #[.int .i64 (borderZ f d), .int .i64 (borderZ f d)], .bool true] := by simp [inV, inZ, hm]
  rw [e]
  clear e
  go_enter Tryz.func100, Tryz.ntmps100
  go_wp2_with (first
    | (go_at_call 101; refine (check_ok _ _ _ hm).mono ?_; rintro e w2 ⟨rfl, hb2⟩; have HR2 := hide (HR1.out.below hb2); have HK2 := hide (HK1.out.below hb2); have HB2 := hide (bel HB1.out hb2); clear hb2; obtain ⟨s2, t2, u2, v2⟩ := facts2 HR2.out; obtain ⟨x2, y2, -, -⟩ := facts2 HK2.out)
    | (go_at_call 84; refine (border_any _ _ _).mono ?_; rintro e w3 ⟨rfl, hb3⟩; have HR3 := hide (HR2.out.below hb3); have HK3 := hide (HK2.out.below hb3); have HB3 := hide (bel HB2.out hb3); clear hb3; obtain ⟨s3, t3, u3, v3⟩ := facts2 HR3.out; obtain ⟨x3, y3, -, -⟩ := facts2 HK3.out)
    | (go_at_call 137; refine (only_any _ _).mono ?_; rintro e w4 ⟨rfl, hb4⟩; have HR4 := hide (HR3.out.below hb4); have HK4 := hide (HK3.out.below hb4); have HB4 := hide (bel HB3.out hb4); clear hb4; obtain ⟨s4, t4, u4, v4⟩ := facts2 HR4.out; obtain ⟨x4, y4, -, -⟩ := facts2 HK4.out))
  obtain ⟨c0, c1, hB⟩ := stored2 HR4.out HB4.out (by omega) (borderZ f d) (borderZ f d)
  exact bodyPost_ret (v := .tuple #[.agg #[.int .i64 (borderZ f d), .int .i64 (borderZ f d)], .bool true]) (by simp [results, Tryz.results100, go_sem, c0, c1]) rfl ⟨rfl, hB⟩

set_option maxRecDepth 100000 in
set_option maxHeartbeats 2000000 in
theorem input6 (f d n : Int) (hm : May f d) (h0 : n ≠ 0) (h1 : n ≠ 1) (h2 : n ≠ 2) (h3 : n ≠ 3) (h4 : n ≠ 4) (h5 : n ≠ 5) (w : World) :
    Calls Tryz.prog 100 #[.agg #[.int .i64 f, .int .i64 d], .int .i64 n] w fun e w' => e = .returned (inV f d n) ∧ Below w.heap.size w w' := by
  have HB1 := hide ((bel1 w (.cells #[.int .i64 f, .int .i64 d] 23)).alloc (by simp) (.cells #[.int .i64 0, .int .i64 0] 74))
  have hR : HasC ((w.alloc (.cells #[.int .i64 f, .int .i64 d] 23)).alloc (.cells #[.int .i64 0, .int .i64 0] 74)) (w.heap.size + 1) 74 #[.int .i64 0, .int .i64 0] := by
    have := HasC.new (w.alloc (.cells #[.int .i64 f, .int .i64 d] 23)) 74 #[.int .i64 0, .int .i64 0]
    rwa [World.size_alloc] at this
  have HR1 := hide hR
  have HK1 := hide ((HasC.new w 23 #[.int .i64 f, .int .i64 d]).alloc (.cells #[.int .i64 0, .int .i64 0] 74))
  clear hR
  have e : inV f d n = .tuple #[.agg #[.int .i64 (0), .int .i64 (0)], .bool false] := by simp [inV, inZ, hm, h0, h1, h2, h3, h4, h5]
  rw [e]
  clear e
  go_enter Tryz.func100, Tryz.ntmps100
  go_wp2_with (first
    | (go_at_call 101; refine (check_ok _ _ _ hm).mono ?_; rintro e w2 ⟨rfl, hb2⟩; have HR2 := hide (HR1.out.below hb2); have HK2 := hide (HK1.out.below hb2); have HB2 := hide (bel HB1.out hb2); clear hb2; obtain ⟨s2, t2, u2, v2⟩ := facts2 HR2.out; obtain ⟨x2, y2, -, -⟩ := facts2 HK2.out))
  obtain ⟨c0, c1, hB⟩ := stored2 HR2.out HB2.out (by omega) (0) (0)
  exact bodyPost_ret (v := .tuple #[.agg #[.int .i64 (0), .int .i64 (0)], .bool false]) (by simp [results, Tryz.results100, go_sem, c0, c1]) rfl ⟨rfl, hB⟩

theorem input_any (f d n : Int) (w : World) :
    Calls Tryz.prog 100 #[.agg #[.int .i64 f, .int .i64 d], .int .i64 n] w fun e w' => e = .returned (inV f d n) ∧ Below w.heap.size w w' := by
  by_cases hm : May f d
  · by_cases h0 : n = 0
    · subst h0; exact input0 f d hm w
    by_cases h1 : n = 1
    · subst h1; exact input1 f d hm w
    by_cases h2 : n = 2
    · subst h2; exact input2 f d hm w
    by_cases h3 : n = 3
    · subst h3; exact input3 f d hm w
    by_cases h4 : n = 4
    · subst h4; exact input4 f d hm w
    by_cases h5 : n = 5
    · subst h5; exact input5 f d hm w
    exact input6 f d n hm h0 h1 h2 h3 h4 h5 w
  · exact input_bad f d n hm w

end Go.Proofs.YtihbhbeaihdgnaaGreat.Knd
