/-
  The small functions of package kind, and the document's own: what each answers, for every kind; memory that was there stays.
-/
import Derived.Test.YtihbhbeaihdgnaaChecked
import Derived.WalkKit
import Derived.WalkSpells
import Derived.Laws.AppendOwn
import Derived.Laws.OwnMore
import Derived.OwnWalk
namespace Go.Proofs.Ytihbhbeaihdgnaa.Knd
open Go.RowKit Go.IntWalk
set_option linter.unusedVariables false

theorem hide {p : Prop} (h : p) : Hid p := h

theorem bcell {W w1 : World} (hb : Below W.heap.size W w1) : (∀ b o, b < W.heap.size → w1.cell? ⟨b, o, none⟩ = W.cell? ⟨b, o, none⟩) ∧ (∀ b o, b < W.heap.size → w1.frozen? ⟨b, o, none⟩ = W.frozen? ⟨b, o, none⟩) :=
  ⟨fun b o h => hb.cell (p := ⟨b, o, none⟩) h, fun b o h => hb.frozen (p := ⟨b, o, none⟩) h⟩
theorem bel {w w1 w2 : World} (h : Below w.heap.size w w1) (k : Below w1.heap.size w1 w2) : Below w.heap.size w w2 := h.trans (k.mono h.size)
theorem bel1 (w : World) (o : Obj) : Below w.heap.size w (w.alloc o) := (Below.refl _ _).alloc (Nat.le_refl _) _
theorem ret_int {k : IntKind} {a b : Int} (h : a = b) : Ending.returned (.int k a) = .returned (.int k b) := by rw [h]

/-- The kind may be. -/
def May (f d : Int) : Prop := (f = 0 ∨ f = 1) ∧ 1 ≤ d ∧ d ≤ 16
instance (f d : Int) : Decidable (May f d) := by unfold May; infer_instance

theorem kind3 (f d : Int) : (May f d ∧ f = 0) ∨ (May f d ∧ f = 1) ∨ ¬ May f d := by
  by_cases h : May f d
  · rcases h.1 with h0 | h0
    · exact .inl ⟨h, h0⟩
    · exact .inr (.inl ⟨h, h0⟩)
  · exact .inr (.inr h)

/-- 2 to the n. -/
def pw (n : Int) : Int := 2 ^ n.toNat

theorem pw_le (n : Int) (h : n ≤ 16) : 1 ≤ pw n ∧ pw n ≤ 65536 := by
  unfold pw
  have h1 : n.toNat ≤ 16 := by omega
  have h2 : 2 ^ n.toNat ≤ 2 ^ 16 := Nat.pow_le_pow_right (by decide) h1
  have h3 : 0 < 2 ^ n.toNat := Nat.pow_pos (by decide)
  have e : ((2 : Int) ^ n.toNat) = ((2 ^ n.toNat : Nat) : Int) := by simp
  rw [e]
  omega

theorem pw_succ (n : Int) (h : 0 ≤ n) : pw (n + 1) = 2 * pw n := by
  unfold pw
  rw [show (n + 1).toNat = n.toNat + 1 by omega, Int.pow_succ]; omega

theorem pw_half (d : Int) (h : 1 ≤ d) : pw d = 2 * pw (d - 1) := by
  have := pw_succ (d - 1) (by omega); rw [show d - 1 + 1 = d by omega] at this; exact this

def lowZ (f d : Int) : Int := if May f d ∧ f = 1 then -pw (d - 1) else 0
def highZ (f d : Int) : Int := if May f d then (if f = 0 then 2 * pw (d - 1) - 1 else pw (d - 1) - 1) else 0
def borderZ (f d : Int) : Int := if May f d ∧ f = 0 then pw (d - 1) else 0
def countZ (f d : Int) : Int := if May f d then (if f = 0 then 44 else 31) else 0

theorem zs0 {d : Int} (h : May 0 d) : lowZ 0 d = 0 ∧ highZ 0 d = 2 * pw (d - 1) - 1 ∧ borderZ 0 d = pw (d - 1) ∧ countZ 0 d = 44 := by
  simp [lowZ, highZ, borderZ, countZ, h]
theorem zs1 {d : Int} (h : May 1 d) : lowZ 1 d = -pw (d - 1) ∧ highZ 1 d = pw (d - 1) - 1 ∧ borderZ 1 d = 0 ∧ countZ 1 d = 31 := by
  simp [lowZ, highZ, borderZ, countZ, h]
theorem zs2 {f d : Int} (h : ¬ May f d) : lowZ f d = 0 ∧ highZ f d = 0 ∧ borderZ f d = 0 ∧ countZ f d = 0 := by
  simp [lowZ, highZ, borderZ, countZ, h]

set_option maxRecDepth 100000 in
set_option maxHeartbeats 1000000 in
theorem check_ok (f d : Int) (w : World) (h : May f d) :
    Calls Try.prog 38 #[.agg #[.int .i64 f, .int .i64 d]] w fun e w' => e = .returned (.int .i64 0) ∧ Below w.heap.size w w' := by
  obtain ⟨hf, h1, h2⟩ := h
  have hb : Below w.heap.size w (w.alloc (.cells #[.int .i64 f, .int .i64 d] 23)) := (Below.refl _ _).alloc (Nat.le_refl _) _
  rcases hf with rfl | rfl
  · go_enter Try.func38, Try.ntmps38
    go_wp2
    go_ret
    exact ⟨rfl, hb⟩
  · go_enter Try.func38, Try.ntmps38
    go_wp2
    go_ret
    exact ⟨rfl, hb⟩

set_option maxRecDepth 100000 in
set_option maxHeartbeats 1000000 in
theorem check_bad (f d : Int) (w : World) (h : ¬ May f d) :
    Calls Try.prog 38 #[.agg #[.int .i64 f, .int .i64 d]] w fun e w' => e = .returned (.int .i64 1) ∧ Below w.heap.size w w' := by
  have hb : Below w.heap.size w (w.alloc (.cells #[.int .i64 f, .int .i64 d] 23)) := (Below.refl _ _).alloc (Nat.le_refl _) _
  by_cases h1 : f = 0
  · subst h1
    by_cases h2 : d < 1
    · go_enter Try.func38, Try.ntmps38
      go_wp2
      go_ret
      exact ⟨rfl, hb⟩
    · have h3 : 16 < d := by unfold May at h; omega
      go_enter Try.func38, Try.ntmps38
      go_wp2
      go_ret
      exact ⟨rfl, hb⟩
  · by_cases h4 : f = 1
    · subst h4
      by_cases h2 : d < 1
      · go_enter Try.func38, Try.ntmps38
        go_wp2
        go_ret
        exact ⟨rfl, hb⟩
      · have h3 : 16 < d := by unfold May at h; omega
        go_enter Try.func38, Try.ntmps38
        go_wp2
        go_ret
        exact ⟨rfl, hb⟩
    · have h5 : (f != 0) = true := by simp [h1]
      have h6 : (f != 1) = true := by simp [h4]
      go_enter Try.func38, Try.ntmps38
      go_wp2
      go_ret
      exact ⟨rfl, hb⟩

set_option maxRecDepth 100000 in
set_option maxHeartbeats 1000000 in
theorem half_any (f d : Int) (w : World) (h : May f d) :
    Calls Try.prog 45 #[.agg #[.int .i64 f, .int .i64 d]] w fun e w' => e = .returned (.int .i64 (pw (d - 1))) ∧ Below w.heap.size w w' := by
  obtain ⟨hf, h1, h2⟩ := h
  have HP := hide (pw_le (d - 1) (by omega))
  go_enter Try.func45, Try.ntmps45
  go_wp2
  go_ret
  refine ⟨ret_int ?_, bel1 _ _⟩
  have := HP.out
  unfold pw at this ⊢
  rw [show (d - 1).toNat = d.toNat - 1 by omega] at this ⊢
  exact wrap64_in _ ⟨by omega, by omega⟩


set_option maxRecDepth 100000 in
set_option maxHeartbeats 1000000 in
theorem low_any (f d : Int) (w : World) :
    Calls Try.prog 27 #[.agg #[.int .i64 f, .int .i64 d]] w fun e w' => e = .returned (.int .i64 (lowZ f d)) ∧ Below w.heap.size w w' := by
  rcases kind3 f d with ⟨hm, rfl⟩ | ⟨hm, rfl⟩ | hm
  · rw [(zs0 hm).1]
    have hb := bel1 w (.cells #[.int .i64 0, .int .i64 d] 23)
    go_enter Try.func27, Try.ntmps27
    go_wp2_with (go_at_call 38; refine (check_ok _ _ _ hm).mono ?_; rintro e w2 ⟨rfl, hb2⟩; obtain ⟨hc2, hf2⟩ := bcell hb2)
    go_ret
    exact ⟨rfl, bel hb hb2⟩
  · rw [(zs1 hm).1]
    have hb := bel1 w (.cells #[.int .i64 1, .int .i64 d] 23)
    obtain ⟨p1, p2⟩ := pw_le (d - 1) (by unfold May at hm; omega)
    go_enter Try.func27, Try.ntmps27
    go_wp2_with (first | (go_at_call 38; refine (check_ok _ _ _ hm).mono ?_; rintro e w2 ⟨rfl, hb2⟩; obtain ⟨hc2, hf2⟩ := bcell hb2) | (go_at_call 45; refine (half_any _ _ _ hm).mono ?_; rintro e w3 ⟨rfl, hb3⟩))
    go_ret
    exact ⟨rfl, bel (bel hb hb2) hb3⟩
  · rw [(zs2 hm).1]
    have hb := bel1 w (.cells #[.int .i64 f, .int .i64 d] 23)
    go_enter Try.func27, Try.ntmps27
    go_wp2_with (go_at_call 38; refine (check_bad _ _ _ hm).mono ?_; rintro e w2 ⟨rfl, hb2⟩; obtain ⟨hc2, hf2⟩ := bcell hb2)
    go_ret
    exact ⟨rfl, bel hb hb2⟩

set_option maxRecDepth 100000 in
set_option maxHeartbeats 1000000 in
theorem high_any (f d : Int) (w : World) :
    Calls Try.prog 28 #[.agg #[.int .i64 f, .int .i64 d]] w fun e w' => e = .returned (.int .i64 (highZ f d)) ∧ Below w.heap.size w w' := by
  rcases kind3 f d with ⟨hm, rfl⟩ | ⟨hm, rfl⟩ | hm
  · rw [(zs0 hm).2.1]
    have hb := bel1 w (.cells #[.int .i64 0, .int .i64 d] 23)
    obtain ⟨p1, p2⟩ := pw_le (d - 1) (by unfold May at hm; omega)
    go_enter Try.func28, Try.ntmps28
    go_wp2_with (first | (go_at_call 38; refine (check_ok _ _ _ hm).mono ?_; rintro e w2 ⟨rfl, hb2⟩; obtain ⟨hc2, hf2⟩ := bcell hb2) | (go_at_call 45; refine (half_any _ _ _ hm).mono ?_; rintro e w3 ⟨rfl, hb3⟩))
    go_ret
    exact ⟨rfl, bel (bel hb hb2) hb3⟩
  · rw [(zs1 hm).2.1]
    have hb := bel1 w (.cells #[.int .i64 1, .int .i64 d] 23)
    obtain ⟨p1, p2⟩ := pw_le (d - 1) (by unfold May at hm; omega)
    go_enter Try.func28, Try.ntmps28
    go_wp2_with (first | (go_at_call 38; refine (check_ok _ _ _ hm).mono ?_; rintro e w2 ⟨rfl, hb2⟩; obtain ⟨hc2, hf2⟩ := bcell hb2) | (go_at_call 45; refine (half_any _ _ _ hm).mono ?_; rintro e w3 ⟨rfl, hb3⟩))
    go_ret
    exact ⟨rfl, bel (bel hb hb2) hb3⟩
  · rw [(zs2 hm).2.1]
    have hb := bel1 w (.cells #[.int .i64 f, .int .i64 d] 23)
    go_enter Try.func28, Try.ntmps28
    go_wp2_with (go_at_call 38; refine (check_bad _ _ _ hm).mono ?_; rintro e w2 ⟨rfl, hb2⟩; obtain ⟨hc2, hf2⟩ := bcell hb2)
    go_ret
    exact ⟨rfl, bel hb hb2⟩

set_option maxRecDepth 100000 in
set_option maxHeartbeats 1000000 in
theorem border_any (f d : Int) (w : World) :
    Calls Try.prog 34 #[.agg #[.int .i64 f, .int .i64 d]] w fun e w' => e = .returned (.int .i64 (borderZ f d)) ∧ Below w.heap.size w w' := by
  rcases kind3 f d with ⟨hm, rfl⟩ | ⟨hm, rfl⟩ | hm
  · rw [(zs0 hm).2.2.1]
    have hb := bel1 w (.cells #[.int .i64 0, .int .i64 d] 23)
    obtain ⟨p1, p2⟩ := pw_le (d - 1) (by unfold May at hm; omega)
    go_enter Try.func34, Try.ntmps34
    go_wp2_with (first | (go_at_call 38; refine (check_ok _ _ _ hm).mono ?_; rintro e w2 ⟨rfl, hb2⟩; obtain ⟨hc2, hf2⟩ := bcell hb2) | (go_at_call 45; refine (half_any _ _ _ hm).mono ?_; rintro e w3 ⟨rfl, hb3⟩))
    go_ret
    exact ⟨rfl, bel (bel hb hb2) hb3⟩
  · rw [(zs1 hm).2.2.1]
    have hb := bel1 w (.cells #[.int .i64 1, .int .i64 d] 23)
    go_enter Try.func34, Try.ntmps34
    go_wp2_with (go_at_call 38; refine (check_ok _ _ _ hm).mono ?_; rintro e w2 ⟨rfl, hb2⟩; obtain ⟨hc2, hf2⟩ := bcell hb2)
    go_ret
    exact ⟨rfl, bel hb hb2⟩
  · rw [(zs2 hm).2.2.1]
    have hb := bel1 w (.cells #[.int .i64 f, .int .i64 d] 23)
    go_enter Try.func34, Try.ntmps34
    go_wp2_with (go_at_call 38; refine (check_bad _ _ _ hm).mono ?_; rintro e w2 ⟨rfl, hb2⟩; obtain ⟨hc2, hf2⟩ := bcell hb2)
    go_ret
    exact ⟨rfl, bel hb hb2⟩

set_option maxRecDepth 100000 in
set_option maxHeartbeats 1000000 in
theorem count_any (f d : Int) (w : World) :
    Calls Try.prog 23 #[.agg #[.int .i64 f, .int .i64 d]] w fun e w' => e = .returned (.int .i64 (countZ f d)) ∧ Below w.heap.size w w' := by
  rcases kind3 f d with ⟨hm, rfl⟩ | ⟨hm, rfl⟩ | hm
  · rw [(zs0 hm).2.2.2]
    have hb := bel1 w (.cells #[.int .i64 0, .int .i64 d] 23)
    go_enter Try.func23, Try.ntmps23
    go_wp2_with (go_at_call 38; refine (check_ok _ _ _ hm).mono ?_; rintro e w2 ⟨rfl, hb2⟩; obtain ⟨hc2, hf2⟩ := bcell hb2)
    go_ret
    exact ⟨rfl, bel hb hb2⟩
  · rw [(zs1 hm).2.2.2]
    have hb := bel1 w (.cells #[.int .i64 1, .int .i64 d] 23)
    go_enter Try.func23, Try.ntmps23
    go_wp2_with (go_at_call 38; refine (check_ok _ _ _ hm).mono ?_; rintro e w2 ⟨rfl, hb2⟩; obtain ⟨hc2, hf2⟩ := bcell hb2)
    go_ret
    exact ⟨rfl, bel hb hb2⟩
  · rw [(zs2 hm).2.2.2]
    have hb := bel1 w (.cells #[.int .i64 f, .int .i64 d] 23)
    go_enter Try.func23, Try.ntmps23
    go_wp2_with (go_at_call 38; refine (check_bad _ _ _ hm).mono ?_; rintro e w2 ⟨rfl, hb2⟩; obtain ⟨hc2, hf2⟩ := bcell hb2)
    go_ret
    exact ⟨rfl, bel hb hb2⟩

end Go.Proofs.Ytihbhbeaihdgnaa.Knd

/-
  Blocks and their cells.
-/
namespace Go.Proofs.Ytihbhbeaihdgnaa.Knd
open Go.RowKit
set_option linter.unusedVariables false

/-- The block b holds just these cells. -/
def HasC (W : World) (b : Nat) (t : TypeId) (cs : Array Value) : Prop := W.heap[b]? = some (.cells cs t (0, 0))

theorem HasC.lt {W : World} {b : Nat} {t : TypeId} {cs : Array Value} (h : HasC W b t cs) : b < W.heap.size := (Array.getElem?_eq_some_iff.1 h).1
theorem HasC.new (W : World) (t : TypeId) (cs : Array Value) : HasC (W.alloc (.cells cs t)) W.heap.size t cs := heap_alloc_new W _
theorem HasC.kept {W W' : World} {row : Option Nat} {b : Nat} {t : TypeId} {cs : Array Value} (h : HasC W b t cs) (hg : W.grownBy W' row) (hne : some b ≠ row) : HasC W' b t cs := (hg.block b h.lt hne).trans h
theorem HasC.alloc {W : World} {b : Nat} {t : TypeId} {cs : Array Value} (h : HasC W b t cs) (o : Obj) : HasC (W.alloc o) b t cs := h.kept (World.grownBy_alloc W o none) (by simp)
theorem HasC.below {W W' : World} {b : Nat} {t : TypeId} {cs : Array Value} (h : HasC W b t cs) (hb : Below W.heap.size W W') : HasC W' b t cs := (hb.block b h.lt).trans h
theorem HasC.cell {W : World} {b : Nat} {t : TypeId} {cs : Array Value} (h : HasC W b t cs) (i : Nat) {v : Value} (hv : cs[i]? = some v) : W.cell? ⟨b, i, none⟩ = some v := (cell_of_row W b i cs t (0, 0) h).trans hv
theorem HasC.frozen {W : World} {b : Nat} {t : TypeId} {cs : Array Value} (h : HasC W b t cs) (i : Nat) : W.frozen? ⟨b, i, none⟩ = false := by
  simp [World.frozen?, show W.heap[b]? = _ from h]
theorem HasC.other {W : World} {b : Nat} {t : TypeId} {cs : Array Value} (h : HasC W b t cs) {p : Addr} (hne : b ≠ p.block) (u : Value) : HasC (W.setCell p u) b t cs := (Below.heap_setCell W p u b hne).trans h
theorem HasC.set {W : World} {b : Nat} {t : TypeId} {cs : Array Value} (h : HasC W b t cs) (i : Nat) (u : Value) : HasC (W.setCell ⟨b, i, none⟩ u) b t (cs.setIfInBounds i u) := by
  obtain ⟨hlt, hk⟩ := Array.getElem?_eq_some_iff.1 h
  show (W.heap.modify b _)[b]? = _
  rw [Array.getElem?_eq_getElem (by rw [Array.size_modify]; exact hlt), Array.getElem_modify_self, hk]
  rfl
end Go.Proofs.Ytihbhbeaihdgnaa.Knd
