/-
  The small functions of package span, and the document's own: what each answers; memory that was there stays.
-/
import Derived.Test.YtihbhbeaihdgnaaMSpB
import Derived.Lib.QuietBelow
import Derived.Lib.BitFns
namespace Go.Proofs.Ytihbhbeaihdgnaa.Spn
open Go.RowKit Go.IntWalk
set_option linter.unusedVariables false

/-- The block b holds just these cells. -/
def HasC (W : World) (b : Nat) (t : TypeId) (cs : Array Value) : Prop := W.heap[b]? = some (.cells cs t (0, 0))
theorem HasC.lt {W : World} {b : Nat} {t : TypeId} {cs : Array Value} (h : HasC W b t cs) : b < W.heap.size := (Array.getElem?_eq_some_iff.1 h).1
theorem HasC.new (W : World) (t : TypeId) (cs : Array Value) : HasC (W.alloc (.cells cs t)) W.heap.size t cs := heap_alloc_new W _
theorem HasC.kept {W W' : World} {row : Option Nat} {b : Nat} {t : TypeId} {cs : Array Value} (h : HasC W b t cs) (hg : W.grownBy W' row) (hne : some b ≠ row) : HasC W' b t cs := (hg.block b h.lt hne).trans h
theorem HasC.alloc {W : World} {b : Nat} {t : TypeId} {cs : Array Value} (h : HasC W b t cs) (o : Obj) : HasC (W.alloc o) b t cs := h.kept (World.grownBy_alloc W o none) (by simp)
theorem HasC.below {W W' : World} {b : Nat} {t : TypeId} {cs : Array Value} (h : HasC W b t cs) (hb : Below W.heap.size W W') : HasC W' b t cs := (hb.block b h.lt).trans h
theorem HasC.cell {W : World} {b : Nat} {t : TypeId} {cs : Array Value} (h : HasC W b t cs) (i : Nat) {v : Value} (hv : cs[i]? = some v) : W.cell? ⟨b, i, none⟩ = some v := (cell_of_row W b i cs t (0, 0) h).trans hv
theorem HasC.frozen {W : World} {b : Nat} {t : TypeId} {cs : Array Value} (h : HasC W b t cs) (i : Nat) : W.frozen? ⟨b, i, none⟩ = false := by
  simp [World.frozen?, show W.heap[b]? = _ from h]
theorem HasC.other {W : World} {b : Nat} {t : TypeId} {cs : Array Value} (h : HasC W b t cs) {p : Addr} (hne : b ≠ p.block) (u : Value) : HasC (W.setCell p u) b t cs := (Below.heap_setCell W p u b hne).trans h
theorem HasC.set {W : World} {b : Nat} {t : TypeId} {cs : Array Value} (h : HasC W b t cs) (i : Nat) (u : Value) : HasC (W.setCell ⟨b, i, none⟩ u) b t (cs.setIfInBounds i u) := by
  obtain ⟨hlt, hk⟩ := Array.getElem?_eq_some_iff.1 h
  show (W.heap.modify b _)[b]? = _
  rw [Array.getElem?_eq_getElem (by rw [Array.size_modify]; exact hlt), Array.getElem_modify_self, hk]
  rfl
theorem facts2 {W : World} {b : Nat} {t : TypeId} {x y : Value} (h : HasC W b t #[x, y]) : W.cell? ⟨b, 0, none⟩ = some x ∧ W.cell? ⟨b, 1, none⟩ = some y ∧ W.frozen? ⟨b, 0, none⟩ = false ∧ W.frozen? ⟨b, 1, none⟩ = false :=
  ⟨h.cell 0 rfl, h.cell 1 rfl, h.frozen 0, h.frozen 1⟩
/-- The end of a walk whose answer lies in a cell of its own: two stores. -/
theorem stored2 {w w2 : World} {b : Nat} {t : TypeId} {p q : Value} (h : HasC w2 b t #[p, q]) (hB : Below w.heap.size w w2) (hb : w.heap.size ≤ b) (x y : Int) :
    ((w2.setCell ⟨b, 0, none⟩ (.int .i64 x)).setCell ⟨b, 1, none⟩ (.int .i64 y)).cell? ⟨b, 0, none⟩ = some (.int .i64 x) ∧ ((w2.setCell ⟨b, 0, none⟩ (.int .i64 x)).setCell ⟨b, 1, none⟩ (.int .i64 y)).cell? ⟨b, 1, none⟩ = some (.int .i64 y) ∧
    Below w.heap.size w ((w2.setCell ⟨b, 0, none⟩ (.int .i64 x)).setCell ⟨b, 1, none⟩ (.int .i64 y)) := by
  have h3 := (h.set 0 (.int .i64 x)).set 1 (.int .i64 y)
  exact ⟨h3.cell 0 rfl, h3.cell 1 rfl, (hB.setCell (p := ⟨b, 0, none⟩) hb _).setCell (p := ⟨b, 1, none⟩) hb _⟩
theorem ret_span {a b c d : Int} (h : a = b) (h' : c = d) : Ending.returned (.agg #[.int .i64 a, .int .i64 c]) = .returned (.agg #[.int .i64 b, .int .i64 d]) := by rw [h, h']

/-- A span is whole. -/
def whB (x y : Int) : Bool := decide (x ≤ y) && (wd x && wd y)
theorem whB_iff {x y : Int} : whB x y = true ↔ x ≤ y ∧ -2147483648 ≤ x ∧ x ≤ 2147483647 ∧ -2147483648 ≤ y ∧ y ≤ 2147483647 := by
  simp [whB, wd_iff, and_assoc]
def hasB (x y z : Int) : Bool := decide (x ≤ z) && decide (z ≤ y)
theorem hasB_iff {x y z : Int} : hasB x y z = true ↔ x ≤ z ∧ z ≤ y := by simp [hasB]

theorem whole_any (x y : Int) (w : World) :
    Calls Try.prog 60 #[.agg #[.int .i64 x, .int .i64 y]] w fun e w' => e = .returned (.bool (whB x y)) ∧ Below w.heap.size w w' := by
  have HB := hide (bel1 w (.cells #[.int .i64 x, .int .i64 y] 73))
  by_cases h1 : x ≤ y
  · have d1 : decide (x ≤ y) = true := by simp [h1]
    cases h2 : wd x
    · go_enter Try.func60, Try.ntmps60
      go_wp2_with (go_at_call 52; refine (word_any _ _).mono ?_; rintro e w' ⟨rfl, rfl⟩)
      go_ret
      exact ⟨ret_bool (by simp [whB, h1, h2]), HB.out⟩
    · go_enter Try.func60, Try.ntmps60
      go_wp2_with (go_at_call 52; refine (word_any _ _).mono ?_; rintro e w' ⟨rfl, rfl⟩)
      go_ret
      exact ⟨ret_bool (by simp [whB, h1, h2]), HB.out⟩
  · have d1 : decide (x ≤ y) = false := by simp [h1]
    go_enter Try.func60, Try.ntmps60
    go_wp2_with (go_at_call 52; refine (word_any _ _).mono ?_; rintro e w' ⟨rfl, rfl⟩)
    go_ret
    exact ⟨ret_bool (by simp [whB, show ¬ x ≤ y by omega]), HB.out⟩

theorem has_any (x y z : Int) (w : World) :
    Calls Try.prog 83 #[.agg #[.int .i64 x, .int .i64 y], .int .i64 z] w fun e w' => e = .returned (.bool (hasB x y z)) ∧ Below w.heap.size w w' := by
  have HB := hide (bel1 w (.cells #[.int .i64 x, .int .i64 y] 73))
  by_cases h1 : x ≤ z
  · have d1 : decide (x ≤ z) = true := by simp [h1]
    go_enter Try.func83, Try.ntmps83
    go_wp2
    go_ret
    exact ⟨ret_bool (by simp [hasB, h1]), HB.out⟩
  · have d1 : decide (x ≤ z) = false := by simp [h1]
    go_enter Try.func83, Try.ntmps83
    go_wp2
    go_ret
    exact ⟨ret_bool (by simp [hasB, show ¬ x ≤ z by omega]), HB.out⟩

theorem alone_any (n : Int) (w : World) :
    Calls Try.prog 68 #[.int .i64 n] w fun e w' => e = .returned (.agg #[.int .i64 n, .int .i64 n]) ∧ Below w.heap.size w w' := by
  go_enter Try.func68, Try.ntmps68
  go_wp2
  exact bodyPost_ret (v := .agg #[.int .i64 n, .int .i64 n]) (by simp [results, Try.results68, go_sem]) rfl ⟨rfl, bel1 _ _⟩

/-- Three blocks of a span each, the last one the answer's. -/
theorem bel3 (w : World) (o1 o2 : Obj) (x y : Int) : Below w.heap.size w (((w.alloc o1).alloc o2).alloc (.cells #[.int .i64 x, .int .i64 y] 73)) :=
  (((Below.refl _ _).alloc (Nat.le_refl _) _).alloc (by simp) _).alloc (by simp; omega) _

theorem join_any (a b c d : Int) (w : World) :
    Calls Try.prog 85 #[.agg #[.int .i64 a, .int .i64 b], .agg #[.int .i64 c, .int .i64 d]] w fun e w' => e = .returned (.agg #[.int .i64 (min a c), .int .i64 (max b d)]) ∧ Below w.heap.size w w' := by
  go_enter Try.func85, Try.ntmps85
  go_wp2
  all_goals exact bodyPost_ret (v := .agg #[.int .i64 (min a c), .int .i64 (max b d)]) (by simp [results, Try.results85, go_sem]; omega) rfl ⟨rfl, bel3 _ _ _ _ _⟩

/-- A number of a whole span, by a number that says which. -/
def ptZ (x y n : Int) : Int := x + (if n.tmod (y - x + 1) < 0 then n.tmod (y - x + 1) + (y - x + 1) else n.tmod (y - x + 1))
theorem ptZ_in {x y n : Int} (h : x ≤ y) : x ≤ ptZ x y n ∧ ptZ x y n ≤ y := by
  have h1 := Int.lt_tmod_of_pos n (show 0 < y - x + 1 by omega)
  have h2 := Int.tmod_lt_of_pos n (show 0 < y - x + 1 by omega)
  unfold ptZ
  split <;> omega

end Go.Proofs.Ytihbhbeaihdgnaa.Spn

/-
  How many bits a number has: math/bits.Len64 and Len at numbers of 31 bits, span.width.
-/
namespace Go.Proofs.Ytihbhbeaihdgnaa.Spn
open Go.RowKit Go.IntWalk
set_option linter.unusedVariables false

theorem bitLen_gt (k : Nat) : ∀ x : Nat, x < 2 ^ k → k ≤ 63 → x < 2 ^ Lib.bitLen x := by
  induction k with
  | zero =>
    intro x h _
    obtain rfl : x = 0 := by simp at h; omega
    decide
  | succ k ih =>
    intro x h hk
    by_cases h0 : x = 0
    · subst h0; decide
    · have hp : 2 ^ (k + 1) ≤ 2 ^ 63 := Nat.pow_le_pow_right (by decide) hk
      have h1 := ih (x / 2) (by rw [Nat.pow_succ] at h; omega) (by omega)
      rw [Lib.bitLen_half x h0 (by omega), Nat.add_comm, Nat.pow_succ]
      omega

theorem tab_all : ∀ n : Fin 256, (Lib.len8tab[n.val]'(Nat.lt_of_lt_of_le n.isLt (by decide +kernel))).toNat = Lib.bitLen n.val := by decide +kernel
theorem tab_of (n : Nat) (hn : n < 256) (h : n < Lib.len8tab.size) : (Lib.len8tab[n]'h).toNat = Lib.bitLen n := tab_all ⟨n, hn⟩

set_option maxRecDepth 100000 in
set_option maxHeartbeats 4000000 in
set_option maxRecDepth 100000 in
theorem len64_any (x : Int) (w : World) (h : 0 ≤ x ∧ x ≤ 2147483647) :
    Calls Try.prog 96 #[.int .u64 x] w fun e w' => e = .returned (.int .i64 (Lib.bitLen x.toNat)) ∧ w' = w := by
  have hs : Lib.len8tab.size = 256 := by decide +kernel
  rcases (show x < 256 ∨ (256 ≤ x ∧ x < 65536) ∨ (65536 ≤ x ∧ x < 16777216) ∨ 16777216 ≤ x by omega) with g | g | g | g
  · go_enter Try.func96, Try.ntmps96
    go_wp2
    go_ret
    refine ⟨ret_int ?_, rfl⟩
    rw [tab_of x.toNat (by omega)]
    have l := Lib.bitLen_le x.toNat 31 (by decide) (by omega)
    unfold wrap64
    omega
  · go_enter Try.func96, Try.ntmps96
    go_wp2
    go_ret
    refine ⟨ret_int ?_, rfl⟩
    rw [tab_of (x / 256).toNat (by omega)]
    have l := Lib.bitLen_le x.toNat 31 (by decide) (by omega)
    have s := Lib.bitLen_shift8 x.toNat (by omega) (by omega)
    rw [show (x / 256).toNat = x.toNat / 256 by omega]
    unfold wrap64
    omega
  · go_enter Try.func96, Try.ntmps96
    go_wp2
    go_ret
    refine ⟨ret_int ?_, rfl⟩
    rw [tab_of (x / 65536).toNat (by omega)]
    have l := Lib.bitLen_le x.toNat 31 (by decide) (by omega)
    have s := Lib.bitLen_shift16 x.toNat (by omega) (by omega)
    rw [show (x / 65536).toNat = x.toNat / 65536 by omega]
    unfold wrap64
    omega
  · go_enter Try.func96, Try.ntmps96
    go_wp2
    go_ret
    refine ⟨ret_int ?_, rfl⟩
    rw [tab_of (x / 65536 / 256).toNat (by omega)]
    have l := Lib.bitLen_le x.toNat 31 (by decide) (by omega)
    have s := Lib.bitLen_shift24 x.toNat (by omega) (by omega)
    rw [show (x / 65536 / 256).toNat = x.toNat / 16777216 by omega]
    unfold wrap64
    omega

theorem len_any (x : Int) (w : World) (h : 0 ≤ x ∧ x ≤ 2147483647) :
    Calls Try.prog 94 #[.int .u64 x] w fun e w' => e = .returned (.int .i64 (Lib.bitLen x.toNat)) ∧ w' = w := by
  go_enter Try.func94, Try.ntmps94
  go_wp2_with (go_at_call 96; refine (len64_any x _ h).mono ?_; rintro e w' ⟨rfl, rfl⟩)
  go_ret
  exact ⟨rfl, rfl⟩

/-- How many bits a number has beside its sign. -/
def wdN (x : Int) : Nat := Lib.bitLen (if x < 0 then -x - 1 else x).toNat
def wdZ (x : Int) : Int := (wdN x : Nat)
theorem wdN_facts {x : Int} (h : -2147483648 ≤ x ∧ x ≤ 2147483647) : wdN x ≤ 31 ∧ -(2 ^ wdN x : Nat) ≤ x ∧ x < (2 ^ wdN x : Nat) := by
  unfold wdN
  have h1 := Lib.bitLen_le (if x < 0 then -x - 1 else x).toNat 31 (by decide) (by split <;> omega)
  have h2 := bitLen_gt 31 (if x < 0 then -x - 1 else x).toNat (by split <;> omega) (by decide)
  revert h1 h2
  generalize Lib.bitLen (if x < 0 then -x - 1 else x).toNat = m
  intro h1 h2
  refine ⟨h1, ?_⟩
  generalize 2 ^ m = P at *
  split at h2 <;> omega
theorem wdN_least {x : Int} {n : Nat} (hn : n ≤ 62) (h : -(2 ^ n : Nat) ≤ x ∧ x < (2 ^ n : Nat)) : wdN x ≤ n := by
  unfold wdN
  refine Lib.bitLen_le _ _ (by omega) ?_
  generalize 2 ^ n = P at *
  split <;> omega

theorem bw_turn' {a : Int} (ha : -2147483648 ≤ a ∧ a ≤ 2147483647) : bw .xor (-1) a = -a - 1 := by
  have h := bw_32 (fun b a => b = -1 → bw .xor b a = -a - 1) (fun h => by cases h) (fun h => by cases h) (fun _ => by decide) (fun _ => by decide) (by
    intro b a hb ha h e
    subst e
    have h1 := h (by decide)
    rw [show ((-1 : Int) / 2) = -1 by decide] at h1
    show bw .xor (-1) a = -a - 1
    rw [bw_step .xor (-1) a (by omega) ha, show ((-1 : Int) / 2) = -1 by decide, h1]
    simp only [Bop.dig]
    omega) (show -2147483648 ≤ (-1 : Int) ∧ (-1 : Int) ≤ 2147483647 by decide) ha
  exact h rfl

theorem width_any (x : Int) (w : World) (h : -2147483648 ≤ x ∧ x ≤ 2147483647) :
    Calls Try.prog 91 #[.int .i64 x] w fun e w' => e = .returned (.int .i64 (wdZ x)) ∧ w' = w := by
  by_cases h0 : x < 0
  · have hl := fun w => len_any (-x - 1) w (by omega)
    have hx : bits BinOp.xor IntKind.i64 (-1) x = -x - 1 := bw_turn' h
    have hk : wdZ x = Lib.bitLen (-x - 1).toNat := by simp [wdZ, wdN, h0]
    rw [hk]
    clear hk
    generalize hy : -x - 1 = y at *
    have hy0 : 0 ≤ y ∧ y ≤ 2147483647 := by omega
    clear hy
    have hu : IntKind.u64.wrap y = y := by simp [IntKind.wrap, IntKind.bits, IntKind.signed]; omega
    go_enter Try.func91, Try.ntmps91
    go_wp2_with fail
    refine (hl _).mono ?_
    rintro e w' ⟨rfl, rfl⟩
    go_wp2_with fail
    go_ret
    exact ⟨rfl, rfl⟩
  · have hl := fun w => len_any x w (by omega)
    go_enter Try.func91, Try.ntmps91
    go_wp2_with (go_at_call 94; refine (hl _).mono ?_; rintro e w' ⟨rfl, rfl⟩)
    go_ret
    exact ⟨ret_int (by simp [wdZ, wdN]; rw [if_neg (by omega)]), rfl⟩

end Go.Proofs.Ytihbhbeaihdgnaa.Spn
