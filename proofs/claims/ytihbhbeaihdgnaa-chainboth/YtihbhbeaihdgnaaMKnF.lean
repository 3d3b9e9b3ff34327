/-
  Lists of numbers in memory: what a slice of numbers reads as, and how that is carried from one state of memory to another.
-/
import Derived.Test.YtihbhbeaihdgnaaMKnInp
import Derived.Lib.QuietBelow
import Derived.BigQuiet
namespace Go.Proofs.Ytihbhbeaihdgnaa.Knd
open Go.RowKit
set_option linter.unusedVariables false

theorem info3 : (Try.prog.info? 3).map (fun i => (i.zero, i.size, i.bytes)) = some (some (.int .i64 0), 1, 8) := by kernel_rfl

abbrev i64s (xs : List Int) : List Value := xs.map (Value.int .i64)

/-- The slice (a, n, cap) reads as the numbers xs. -/
structure Ints (w : World) (a : Option Addr) (n cap : Nat) (xs : List Int) : Prop where
  len : xs.length = n
  le : n ≤ cap
  max : cap ≤ maxLen
  nil : a = none → cap = 0
  cell : n = 0 ∨ ∃ b off, a = some ⟨b, off, none⟩ ∧ ∀ i, i < n → w.cell? ⟨b, off + i, none⟩ = some (.int .i64 (xs.getD i 0))

theorem Ints.at {w : World} {a : Option Addr} {n cap : Nat} {xs : List Int} (h : Ints w a n cap xs) (hn : n ≠ 0) :
    ∃ b off, a = some ⟨b, off, none⟩ ∧ b < w.heap.size ∧ ∀ i, i < n → w.cell? ⟨b, off + i, none⟩ = some (.int .i64 (xs.getD i 0)) := by
  rcases h.cell with h0 | ⟨b, off, ha, hc⟩
  · exact absurd h0 hn
  · exact ⟨b, off, ha, World.block_lt_of_cell? w _ (hc 0 (by omega)), hc⟩

theorem Ints.of_cells {w w' : World} {a : Option Addr} {n cap : Nat} {xs : List Int} (h : Ints w a n cap xs)
    (hc : ∀ b off, a = some ⟨b, off, none⟩ → n ≠ 0 → ∀ i, i < n → w'.cell? ⟨b, off + i, none⟩ = w.cell? ⟨b, off + i, none⟩) : Ints w' a n cap xs := by
  refine ⟨h.len, h.le, h.max, h.nil, ?_⟩
  by_cases hn : n = 0
  · exact .inl hn
  · obtain ⟨b, off, ha, _, hcell⟩ := h.at hn
    exact .inr ⟨b, off, ha, fun i hi => (hc b off ha hn i hi).trans (hcell i hi)⟩

theorem Ints.later {w w' : World} {a : Option Addr} {n cap : Nat} {xs : List Int} (h : Ints w a n cap xs) (hb : Below w.heap.size w w') : Ints w' a n cap xs := by
  refine h.of_cells fun b off ha hn i hi => ?_
  obtain ⟨b', off', ha', hlt, _⟩ := h.at hn
  rw [ha] at ha'
  cases ha'
  exact hb.cell (p := ⟨b, off + i, none⟩) hlt

theorem Ints.of_owns {w : World} {base : Nat} {v : Value} {n : Nat} {xs : List Int} (h : w.ownsRow base 3 1 v n (i64s xs)) :
    ∃ a cap, v = .slice a n cap ∧ Ints w a n cap xs ∧ (∀ x, a = some x → base ≤ x.block ∧ x.block < w.heap.size) := by
  have hl : xs.length = n := by simpa using h.1
  have hlt := h.lt
  have hcs := fun g hg => h.cells (g := g) hg
  rcases h.2 with ⟨rfl, rfl⟩ | ⟨g, cap, cur, rfl, hb, hg, hnc, hcm, hsz, htake⟩
  · exact ⟨none, 0, rfl, ⟨hl, Nat.le_refl _, Nat.zero_le _, fun _ => rfl, .inl rfl⟩, fun x hx => by cases hx⟩
  · refine ⟨some ⟨g, 0, none⟩, cap, rfl, ⟨hl, hnc, hcm, (fun h => by cases h), .inr ⟨g, 0, rfl, fun i hi => ?_⟩⟩, fun x hx => by cases hx; exact hlt g rfl⟩
    have := hcs g rfl i (.int .i64 (xs.getD i 0)) (by simp [List.getD, hl, hi])
    rw [Addr.add_lit] at this
    exact this

theorem Ints.news {w : World} {a : Option Addr} {n cap : Nat} {xs : List Int} (h : Ints w a n cap xs) : ∀ ad, a = some ad → ∀ j u, (i64s xs)[j]? = some u → w.cell? (ad.add j) = some u := by
  intro ad ha j u hu
  have hj : j < n := by
    have := (List.getElem?_eq_some_iff.1 hu).1
    simpa [h.len] using this
  obtain ⟨b, off, ha', _, hc⟩ := h.at (by omega)
  rw [ha] at ha'
  cases ha'
  rw [Addr.add_lit, hc j hj]
  have hl := h.len
  simp only [i64s, List.getElem?_map] at hu
  rw [List.getElem?_eq_getElem (by omega)] at hu
  simp only [Option.map_some, Option.some.injEq] at hu
  rw [← hu]
  simp [List.getD, hl, hj]

theorem Ints.none {w : World} {n c : Nat} {xs : List Int} (h : Ints w none n c xs) : n = 0 ∧ c = 0 ∧ xs = [] := by
  have h1 := h.nil rfl
  have h2 := h.le
  have h3 := h.len
  exact ⟨by omega, h1, List.eq_nil_of_length_eq_zero (by omega)⟩

theorem one_news (w : World) (k : IntKind) (t : TypeId) (x : Int) : ∀ ad, some (⟨w.heap.size, 0, none⟩ : Addr) = some ad → ∀ j u, [Value.int k x][j]? = some u → (w.alloc (.cells #[.int k x] t)).cell? (ad.add j) = some u := by
  intro ad hh j u hu
  cases hh
  have hj : j = 0 := by
    by_cases hj : j = 0
    · exact hj
    · simp [hj] at hu
  subst hj
  simp at hu
  subst hu
  simp [Addr.add]
theorem one_one (k : IntKind) (x : Int) : ∀ u ∈ [Value.int k x], u.oneCell' = true := by simp [Value.oneCell']

theorem owns_alloc {w : World} {base e size n : Nat} {v : Value} {xs : List Value} (h : w.ownsRow base e size v n xs) (o : Obj) : (w.alloc o).ownsRow base e size v n xs := h.kept (World.grownBy_alloc w o none) (Decidable.em _)

end Go.Proofs.Ytihbhbeaihdgnaa.Knd

/-
  The walks of kind.lies and kind.Fits: which windows are a kind's.
-/
namespace Go.Proofs.Ytihbhbeaihdgnaa.Knd
open Go.RowKit Go.Sort
set_option linter.unusedVariables false

def Lies (f d i n : Int) : Prop := ∃ lo hi, inZ f d i = some (lo, hi) ∧ lo ≤ n ∧ n ≤ hi

set_option maxRecDepth 100000 in
set_option maxHeartbeats 2000000 in
theorem lies_ok (f d i n : Int) (w : World) (h : Lies f d i n) :
    Calls Try.prog 26 #[.agg #[.int .i64 f, .int .i64 d], .int .i64 i, .int .i64 n] w fun e w' => e = .returned (.bool true) ∧ Below w.heap.size w w' := by
  obtain ⟨lo, hi, hz, h1, h2⟩ := h
  have HB1 := hide (bel1 w (.cells #[.int .i64 f, .int .i64 d] 23))
  have HV : Hid (inV f d i = .tuple #[.agg #[.int .i64 lo, .int .i64 hi], .bool true]) := by unfold Hid; rw [inV, hz]; rfl
  clear hz
  go_enter Try.func26, Try.ntmps26
  go_wp2_with (go_at_call 43; refine (input_any f d i _).mono ?_; rintro e w2 ⟨rfl, hb2⟩; rw [HV.out])
  go_ret
  exact ⟨rfl, (bel HB1.out hb2).alloc (bel HB1.out hb2).size _⟩

set_option maxRecDepth 100000 in
set_option maxHeartbeats 2000000 in
theorem lies_bad (f d i n : Int) (w : World) (h : ¬ Lies f d i n) :
    Calls Try.prog 26 #[.agg #[.int .i64 f, .int .i64 d], .int .i64 i, .int .i64 n] w fun e w' => e = .returned (.bool false) ∧ Below w.heap.size w w' := by
  have HB1 := hide (bel1 w (.cells #[.int .i64 f, .int .i64 d] 23))
  cases hz : inZ f d i with
  | none =>
    have HV : Hid (inV f d i = .tuple #[.agg #[.int .i64 0, .int .i64 0], .bool false]) := by unfold Hid; rw [inV, hz]; rfl
    clear hz h
    go_enter Try.func26, Try.ntmps26
    go_wp2_with (go_at_call 43; refine (input_any f d i _).mono ?_; rintro e w2 ⟨rfl, hb2⟩; rw [HV.out])
    go_ret
    exact ⟨rfl, (bel HB1.out hb2).alloc (bel HB1.out hb2).size _⟩
  | some q =>
    obtain ⟨lo, hi⟩ := q
    have HV : Hid (inV f d i = .tuple #[.agg #[.int .i64 lo, .int .i64 hi], .bool true]) := by unfold Hid; rw [inV, hz]; rfl
    have hn : ¬ (lo ≤ n ∧ n ≤ hi) := fun h' => h ⟨lo, hi, hz, h'.1, h'.2⟩
    clear hz h
    by_cases h1 : lo ≤ n
    · have h2 : decide (n ≤ hi) = false := by simp; omega
      clear hn
      go_enter Try.func26, Try.ntmps26
      go_wp2_with (go_at_call 43; refine (input_any f d i _).mono ?_; rintro e w2 ⟨rfl, hb2⟩; rw [HV.out])
      go_ret
      exact ⟨rfl, (bel HB1.out hb2).alloc (bel HB1.out hb2).size _⟩
    · have h2 : decide (lo ≤ n) = false := by simp; omega
      clear hn
      go_enter Try.func26, Try.ntmps26
      go_wp2_with (go_at_call 43; refine (input_any f d i _).mono ?_; rintro e w2 ⟨rfl, hb2⟩; rw [HV.out])
      go_ret
      exact ⟨rfl, (bel HB1.out hb2).alloc (bel HB1.out hb2).size _⟩

/-- The window is one of the kind. -/
def Fit (f d x y c : Int) (zs : List Int) : Prop :=
  ((Lies f d 0 x ∧ Lies f d 1 y) ∧ Lies f d 2 c) ∧ (zs.length : Int) = countZ f d ∧ ∀ z ∈ zs, lowZ f d ≤ z ∧ z ≤ highZ f d

open Classical in
noncomputable def fitE (f d x y c : Int) (zs : List Int) : Int := if Fit f d x y c zs then 0 else 1

theorem factsW {W : World} {b : Nat} {t : TypeId} {x y c p : Value} (h : HasC W b t #[x, y, c, p]) : W.cell? ⟨b, 0, none⟩ = some x ∧ W.cell? ⟨b, 1, none⟩ = some y ∧ W.cell? ⟨b, 2, none⟩ = some c ∧ W.cell? ⟨b, 3, none⟩ = some p :=
  ⟨h.cell 0 rfl, h.cell 1 rfl, h.cell 2 rfl, h.cell 3 rfl⟩

theorem mixed' : Try.prog.follows .mixedOrders = true := by kernel_rfl

set_option maxRecDepth 100000 in
set_option maxHeartbeats 4000000 in
theorem fits_x (f d x y c : Int) (a : Option Addr) (n cap : Nat) (w : World) (hx : ¬ Lies f d 0 x) :
    Calls Try.prog 16 #[.agg #[.int .i64 f, .int .i64 d], .agg #[.int .i64 x, .int .i64 y, .int .i64 c, .slice a n cap]] w fun e w' => e = .returned (.int .i64 1) ∧ Below w.heap.size w w' := by
  have HB1 := hide ((bel1 w (.cells #[.int .i64 f, .int .i64 d] 23)).alloc (by simp) (.cells #[.int .i64 x, .int .i64 y, .int .i64 c, .slice a n cap] 29))
  have HK1 := hide ((HasC.new w 23 #[.int .i64 f, .int .i64 d]).alloc (.cells #[.int .i64 x, .int .i64 y, .int .i64 c, .slice a n cap] 29))
  have hP : HasC ((w.alloc (.cells #[.int .i64 f, .int .i64 d] 23)).alloc (.cells #[.int .i64 x, .int .i64 y, .int .i64 c, .slice a n cap] 29)) (w.heap.size + 1) 29 #[.int .i64 x, .int .i64 y, .int .i64 c, .slice a n cap] := by
    have := HasC.new (w.alloc (.cells #[.int .i64 f, .int .i64 d] 23)) 29 #[.int .i64 x, .int .i64 y, .int .i64 c, .slice a n cap]
    rwa [World.size_alloc] at this
  have HP1 := hide hP
  clear hP
  go_enter Try.func16, Try.ntmps16
  go_wp2_with fail
  refine (lies_bad f d 0 x _ hx).mono ?_
  rintro e w2 ⟨rfl, hb2⟩
  have HK2 := hide (HK1.out.below hb2)
  have HP2 := hide (HP1.out.below hb2)
  have HB2 := hide (bel HB1.out hb2)
  clear hb2 HK1 HP1 HB1
  obtain ⟨x2, y2, -, -⟩ := facts2 HK2.out
  obtain ⟨p2, q2, r2, t2⟩ := factsW HP2.out
  go_wp2
  go_ret
  exact ⟨rfl, HB2.out⟩

set_option maxRecDepth 100000 in
set_option maxHeartbeats 4000000 in
theorem fits_y (f d x y c : Int) (a : Option Addr) (n cap : Nat) (w : World) (hx : Lies f d 0 x) (hy : ¬ Lies f d 1 y) :
    Calls Try.prog 16 #[.agg #[.int .i64 f, .int .i64 d], .agg #[.int .i64 x, .int .i64 y, .int .i64 c, .slice a n cap]] w fun e w' => e = .returned (.int .i64 1) ∧ Below w.heap.size w w' := by
  have HB1 := hide ((bel1 w (.cells #[.int .i64 f, .int .i64 d] 23)).alloc (by simp) (.cells #[.int .i64 x, .int .i64 y, .int .i64 c, .slice a n cap] 29))
  have HK1 := hide ((HasC.new w 23 #[.int .i64 f, .int .i64 d]).alloc (.cells #[.int .i64 x, .int .i64 y, .int .i64 c, .slice a n cap] 29))
  have hP : HasC ((w.alloc (.cells #[.int .i64 f, .int .i64 d] 23)).alloc (.cells #[.int .i64 x, .int .i64 y, .int .i64 c, .slice a n cap] 29)) (w.heap.size + 1) 29 #[.int .i64 x, .int .i64 y, .int .i64 c, .slice a n cap] := by
    have := HasC.new (w.alloc (.cells #[.int .i64 f, .int .i64 d] 23)) 29 #[.int .i64 x, .int .i64 y, .int .i64 c, .slice a n cap]
    rwa [World.size_alloc] at this
  have HP1 := hide hP
  clear hP
  go_enter Try.func16, Try.ntmps16
  go_wp2_with fail
  refine (lies_ok f d 0 x _ hx).mono ?_
  rintro e w2 ⟨rfl, hb2⟩
  have HK2 := hide (HK1.out.below hb2)
  have HP2 := hide (HP1.out.below hb2)
  have HB2 := hide (bel HB1.out hb2)
  clear hb2 HK1 HP1 HB1
  obtain ⟨x2, y2, -, -⟩ := facts2 HK2.out
  obtain ⟨p2, q2, r2, t2⟩ := factsW HP2.out
  go_wp2_with fail
  refine (lies_bad f d 1 y _ hy).mono ?_
  rintro e w3 ⟨rfl, hb3⟩
  have HK3 := hide (HK2.out.below hb3)
  have HP3 := hide (HP2.out.below hb3)
  have HB3 := hide (bel HB2.out hb3)
  clear hb3 HK2 HP2 HB2
  obtain ⟨x3, y3, -, -⟩ := facts2 HK3.out
  obtain ⟨p3, q3, r3, t3⟩ := factsW HP3.out
  go_wp2
  go_ret
  exact ⟨rfl, HB3.out⟩

set_option maxRecDepth 100000 in
set_option maxHeartbeats 4000000 in
theorem fits_c (f d x y c : Int) (a : Option Addr) (n cap : Nat) (w : World) (hx : Lies f d 0 x) (hy : Lies f d 1 y) (hc : ¬ Lies f d 2 c) :
    Calls Try.prog 16 #[.agg #[.int .i64 f, .int .i64 d], .agg #[.int .i64 x, .int .i64 y, .int .i64 c, .slice a n cap]] w fun e w' => e = .returned (.int .i64 1) ∧ Below w.heap.size w w' := by
  have HB1 := hide ((bel1 w (.cells #[.int .i64 f, .int .i64 d] 23)).alloc (by simp) (.cells #[.int .i64 x, .int .i64 y, .int .i64 c, .slice a n cap] 29))
  have HK1 := hide ((HasC.new w 23 #[.int .i64 f, .int .i64 d]).alloc (.cells #[.int .i64 x, .int .i64 y, .int .i64 c, .slice a n cap] 29))
  have hP : HasC ((w.alloc (.cells #[.int .i64 f, .int .i64 d] 23)).alloc (.cells #[.int .i64 x, .int .i64 y, .int .i64 c, .slice a n cap] 29)) (w.heap.size + 1) 29 #[.int .i64 x, .int .i64 y, .int .i64 c, .slice a n cap] := by
    have := HasC.new (w.alloc (.cells #[.int .i64 f, .int .i64 d] 23)) 29 #[.int .i64 x, .int .i64 y, .int .i64 c, .slice a n cap]
    rwa [World.size_alloc] at this
  have HP1 := hide hP
  clear hP
  go_enter Try.func16, Try.ntmps16
  go_wp2_with fail
  refine (lies_ok f d 0 x _ hx).mono ?_
  rintro e w2 ⟨rfl, hb2⟩
  have HK2 := hide (HK1.out.below hb2)
  have HP2 := hide (HP1.out.below hb2)
  have HB2 := hide (bel HB1.out hb2)
  clear hb2 HK1 HP1 HB1
  obtain ⟨x2, y2, -, -⟩ := facts2 HK2.out
  obtain ⟨p2, q2, r2, t2⟩ := factsW HP2.out
  go_wp2_with fail
  refine (lies_ok f d 1 y _ hy).mono ?_
  rintro e w3 ⟨rfl, hb3⟩
  have HK3 := hide (HK2.out.below hb3)
  have HP3 := hide (HP2.out.below hb3)
  have HB3 := hide (bel HB2.out hb3)
  clear hb3 HK2 HP2 HB2
  obtain ⟨x3, y3, -, -⟩ := facts2 HK3.out
  obtain ⟨p3, q3, r3, t3⟩ := factsW HP3.out
  go_wp2_with fail
  refine (lies_bad f d 2 c _ hc).mono ?_
  rintro e w4 ⟨rfl, hb4⟩
  have HK4 := hide (HK3.out.below hb4)
  have HP4 := hide (HP3.out.below hb4)
  have HB4 := hide (bel HB3.out hb4)
  clear hb4 HK3 HP3 HB3
  obtain ⟨x4, y4, -, -⟩ := facts2 HK4.out
  obtain ⟨p4, q4, r4, t4⟩ := factsW HP4.out
  go_wp2
  go_ret
  exact ⟨rfl, HB4.out⟩

set_option maxRecDepth 100000 in
set_option maxHeartbeats 4000000 in
theorem fits_n (f d x y c : Int) (a : Option Addr) (n cap : Nat) (w : World) (hx : Lies f d 0 x) (hy : Lies f d 1 y) (hc : Lies f d 2 c) (hn : ((n : Nat) : Int) ≠ countZ f d) :
    Calls Try.prog 16 #[.agg #[.int .i64 f, .int .i64 d], .agg #[.int .i64 x, .int .i64 y, .int .i64 c, .slice a n cap]] w fun e w' => e = .returned (.int .i64 1) ∧ Below w.heap.size w w' := by
  have HB1 := hide ((bel1 w (.cells #[.int .i64 f, .int .i64 d] 23)).alloc (by simp) (.cells #[.int .i64 x, .int .i64 y, .int .i64 c, .slice a n cap] 29))
  have HK1 := hide ((HasC.new w 23 #[.int .i64 f, .int .i64 d]).alloc (.cells #[.int .i64 x, .int .i64 y, .int .i64 c, .slice a n cap] 29))
  have hP : HasC ((w.alloc (.cells #[.int .i64 f, .int .i64 d] 23)).alloc (.cells #[.int .i64 x, .int .i64 y, .int .i64 c, .slice a n cap] 29)) (w.heap.size + 1) 29 #[.int .i64 x, .int .i64 y, .int .i64 c, .slice a n cap] := by
    have := HasC.new (w.alloc (.cells #[.int .i64 f, .int .i64 d] 23)) 29 #[.int .i64 x, .int .i64 y, .int .i64 c, .slice a n cap]
    rwa [World.size_alloc] at this
  have HP1 := hide hP
  clear hP
  go_enter Try.func16, Try.ntmps16
  go_wp2_with fail
  refine (lies_ok f d 0 x _ hx).mono ?_
  rintro e w2 ⟨rfl, hb2⟩
  have HK2 := hide (HK1.out.below hb2)
  have HP2 := hide (HP1.out.below hb2)
  have HB2 := hide (bel HB1.out hb2)
  clear hb2 HK1 HP1 HB1
  obtain ⟨x2, y2, -, -⟩ := facts2 HK2.out
  obtain ⟨p2, q2, r2, t2⟩ := factsW HP2.out
  go_wp2_with fail
  refine (lies_ok f d 1 y _ hy).mono ?_
  rintro e w3 ⟨rfl, hb3⟩
  have HK3 := hide (HK2.out.below hb3)
  have HP3 := hide (HP2.out.below hb3)
  have HB3 := hide (bel HB2.out hb3)
  clear hb3 HK2 HP2 HB2
  obtain ⟨x3, y3, -, -⟩ := facts2 HK3.out
  obtain ⟨p3, q3, r3, t3⟩ := factsW HP3.out
  go_wp2_with fail
  refine (lies_ok f d 2 c _ hc).mono ?_
  rintro e w4 ⟨rfl, hb4⟩
  have HK4 := hide (HK3.out.below hb4)
  have HP4 := hide (HP3.out.below hb4)
  have HB4 := hide (bel HB3.out hb4)
  clear hb4 HK3 HP3 HB3
  obtain ⟨x4, y4, -, -⟩ := facts2 HK4.out
  obtain ⟨p4, q4, r4, t4⟩ := factsW HP4.out
  have hn' : (((n : Nat) : Int) != countZ f d) = true := by simp [hn]
  go_wp2
  have k0 := cell_regrown x4
  have k1 := cell_regrown y4
  have k2 := cell_regrown t4
  refine wp_region_quiet_below mixed' (by kernel_rfl) ?_
  repeat (first | go_big_quiet_step (first
    | (go_at_call 23; exact Calls.regrown_of (count_any _ _ _))))
  refine wpQuiet_nil ?_
  intro _ hw'
  obtain ⟨⟨dq, osq⟩, hw''⟩ := hw'
  subst hw''
  go_wp2
  go_ret
  exact ⟨rfl, bel HB4.out (below_regrown _ _ _)⟩

set_option maxRecDepth 100000 in
set_option maxHeartbeats 8000000 in
theorem fits_e (f d x y c : Int) (a : Option Addr) (n cap : Nat) (zs : List Int) (w : World) (hZ : Ints w a n cap zs) (hx : Lies f d 0 x) (hy : Lies f d 1 y) (hc : Lies f d 2 c) (hn : ((n : Nat) : Int) = countZ f d) :
    Calls Try.prog 16 #[.agg #[.int .i64 f, .int .i64 d], .agg #[.int .i64 x, .int .i64 y, .int .i64 c, .slice a n cap]] w fun e w' => ((e = .returned (.int .i64 0) ∧ ∀ z ∈ zs, lowZ f d ≤ z ∧ z ≤ highZ f d) ∨ (e = .returned (.int .i64 1) ∧ ∃ z ∈ zs, ¬ (lowZ f d ≤ z ∧ z ≤ highZ f d))) ∧ Below w.heap.size w w' := by
  have HZ1 := hide hZ
  clear hZ
  have HB1 := hide ((bel1 w (.cells #[.int .i64 f, .int .i64 d] 23)).alloc (by simp) (.cells #[.int .i64 x, .int .i64 y, .int .i64 c, .slice a n cap] 29))
  have HK1 := hide ((HasC.new w 23 #[.int .i64 f, .int .i64 d]).alloc (.cells #[.int .i64 x, .int .i64 y, .int .i64 c, .slice a n cap] 29))
  have hP : HasC ((w.alloc (.cells #[.int .i64 f, .int .i64 d] 23)).alloc (.cells #[.int .i64 x, .int .i64 y, .int .i64 c, .slice a n cap] 29)) (w.heap.size + 1) 29 #[.int .i64 x, .int .i64 y, .int .i64 c, .slice a n cap] := by
    have := HasC.new (w.alloc (.cells #[.int .i64 f, .int .i64 d] 23)) 29 #[.int .i64 x, .int .i64 y, .int .i64 c, .slice a n cap]
    rwa [World.size_alloc] at this
  have HP1 := hide hP
  clear hP
  go_enter Try.func16, Try.ntmps16
  go_wp2_with fail
  refine (lies_ok f d 0 x _ hx).mono ?_
  rintro e w2 ⟨rfl, hb2⟩
  have HK2 := hide (HK1.out.below hb2)
  have HP2 := hide (HP1.out.below hb2)
  have HB2 := hide (bel HB1.out hb2)
  clear hb2 HK1 HP1 HB1
  obtain ⟨x2, y2, -, -⟩ := facts2 HK2.out
  obtain ⟨p2, q2, r2, t2⟩ := factsW HP2.out
  go_wp2_with fail
  refine (lies_ok f d 1 y _ hy).mono ?_
  rintro e w3 ⟨rfl, hb3⟩
  have HK3 := hide (HK2.out.below hb3)
  have HP3 := hide (HP2.out.below hb3)
  have HB3 := hide (bel HB2.out hb3)
  clear hb3 HK2 HP2 HB2
  obtain ⟨x3, y3, -, -⟩ := facts2 HK3.out
  obtain ⟨p3, q3, r3, t3⟩ := factsW HP3.out
  go_wp2_with fail
  refine (lies_ok f d 2 c _ hc).mono ?_
  rintro e w4 ⟨rfl, hb4⟩
  have HK4 := hide (HK3.out.below hb4)
  have HP4 := hide (HP3.out.below hb4)
  have HB4 := hide (bel HB3.out hb4)
  clear hb4 HK3 HP3 HB3
  obtain ⟨x4, y4, -, -⟩ := facts2 HK4.out
  obtain ⟨p4, q4, r4, t4⟩ := factsW HP4.out
  have hn' : (((n : Nat) : Int) != countZ f d) = false := by simp [hn]
  have HN := hide hn
  clear hn
  go_wp2
  have k0 := cell_regrown x4
  have k1 := cell_regrown y4
  have k2 := cell_regrown t4
  refine wp_region_quiet_below mixed' (by kernel_rfl) ?_
  repeat (first | go_big_quiet_step (first
    | (go_at_call 23; exact Calls.regrown_of (count_any _ _ _))))
  refine wpQuiet_nil ?_
  intro _ hw'
  obtain ⟨⟨dq, osq⟩, hw''⟩ := hw'
  have hb5 : Below w4.heap.size w4 (grow (redrawn w4 dq) osq) := below_regrown _ _ _
  simp only at hw''
  rw [← hw''] at hb5
  rename_i w5
  have HK5 := hide (HK4.out.below hb5)
  have HP5 := hide (HP4.out.below hb5)
  have HB5 := hide (bel HB4.out hb5)
  clear hw'' hb5 HK4 HP4 HB4 k0 k1 k2 x2 y2 p2 q2 r2 t2 x3 y3 p3 q3 r3 t3 x4 y4 p4 q4 r4 t4
  obtain ⟨x5, y5, -, -⟩ := facts2 HK5.out
  obtain ⟨p5, q5, r5, t5⟩ := factsW HP5.out
  go_wp2
  have k0 := cell_regrown x5
  have k1 := cell_regrown y5
  refine wp_region_quiet_below mixed' (by kernel_rfl) ?_
  repeat (first | go_big_quiet_step (first
    | (go_at_call 27; exact Calls.regrown_of (low_any _ _ _))
    | (go_at_call 28; exact Calls.regrown_of (high_any _ _ _))))
  refine wpQuiet_nil ?_
  intro w6 hw'
  obtain ⟨⟨dq6, osq6⟩, hw''⟩ := hw'
  have hb6 : Below w5.heap.size w5 (grow (redrawn w5 dq6) osq6) := below_regrown _ _ _
  simp only at hw''
  rw [← hw''] at hb6
  have HP6 := hide (HP5.out.below hb6)
  have HB6 := hide (bel HB5.out hb6)
  clear hw'' hb6 HK5 HP5 HB5 k0 k1 x5 y5 p5 q5 r5 t5
  obtain ⟨-, -, -, t6⟩ := factsW HP6.out
  have HZ6 := hide (HZ1.out.later HB6.out)
  obtain ⟨hn1, hn2⟩ : 1 ≤ n ∧ n ≤ 44 := by
    obtain ⟨lo, hi, hz, _⟩ := hx
    have hm : May f d := Classical.byContradiction fun h' => by simp [inZ, h'] at hz
    have h := HN.out
    unfold countZ at h
    rw [if_pos hm] at h
    split at h <;> omega
  obtain ⟨sb, so, rfl, -, hcell⟩ := HZ6.out.at (by omega)
  have HC := hide hcell
  have HLen : Hid (zs.length = n) := HZ6.out.len
  clear hcell HZ1 HZ6
  go_wp2
  go_loop [41] (fun iv => ∃ k : Nat, k ≤ n ∧ iv = .int .i64 k ∧ Hid (∀ j, j < k → lowZ f d ≤ zs.getD j 0 ∧ zs.getD j 0 ≤ highZ f d)) (fun iv => n - (intOf iv).toNat)
  case atStart => exact ⟨0, by omega, rfl, fun j hj => by omega⟩
  case round =>
    obtain ⟨k, hk, rfl, HA⟩ := hrel
    by_cases hlt : k < n
    · have hck := HC.out k hlt
      obtain ⟨z, hz⟩ : ∃ z, zs.getD k 0 = z := ⟨_, rfl⟩
      rw [hz] at hck
      have HZk := hide hz
      have HM : Hid (z ∈ zs) := by
        unfold Hid
        rw [← HZk.out]
        simp only [List.getD]
        rw [List.getElem?_eq_getElem (by have := HLen.out; omega)]
        exact List.getElem_mem _
      clear hz
      by_cases h1 : z < lowZ f d
      · go_wp2
        go_ret
        exact ⟨.inr ⟨rfl, z, HM.out, by omega⟩, HB6.out⟩
      · by_cases h2 : highZ f d < z
        · go_wp2
          go_ret
          exact ⟨.inr ⟨rfl, z, HM.out, by omega⟩, HB6.out⟩
        · have h1' : decide (z < lowZ f d) = false := by simpa using h1
          have h2' : decide (highZ f d < z) = false := by simpa using h2
          go_wp2
          go_round
          case rel => exact ⟨k + 1, by omega, by go_num, fun j hj => by
            by_cases e : j = k
            · subst e; rw [HZk.out]; omega
            · exact HA.out j (by omega)⟩
          case measure => simp [intOf]; omega
    · obtain rfl : k = n := by omega
      go_wp2
      go_ret
      refine ⟨.inl ⟨rfl, fun z hz => ?_⟩, HB6.out⟩
      obtain ⟨i, hi, rfl⟩ := List.getElem_of_mem hz
      have := HA.out i (by have := HLen.out; omega)
      simpa [List.getD, hi] using this

open Classical in
theorem fits_any (f d x y c : Int) (a : Option Addr) (n cap : Nat) (zs : List Int) (w : World) (hZ : Ints w a n cap zs) :
    Calls Try.prog 16 #[.agg #[.int .i64 f, .int .i64 d], .agg #[.int .i64 x, .int .i64 y, .int .i64 c, .slice a n cap]] w fun e w' => e = .returned (.int .i64 (fitE f d x y c zs)) ∧ Below w.heap.size w w' := by
  by_cases hx : Lies f d 0 x
  · by_cases hy : Lies f d 1 y
    · by_cases hc : Lies f d 2 c
      · by_cases hn : ((n : Nat) : Int) = countZ f d
        · refine (fits_e f d x y c a n cap zs w hZ hx hy hc hn).mono ?_
          rintro e w' ⟨h, hB⟩
          refine ⟨?_, hB⟩
          rcases h with ⟨rfl, h⟩ | ⟨rfl, z, hz, h⟩
          · have hF : Fit f d x y c zs := ⟨⟨⟨hx, hy⟩, hc⟩, by rw [hZ.len]; exact hn, h⟩
            rw [fitE, if_pos hF]
          · have hF : ¬ Fit f d x y c zs := fun hF => h (hF.2.2 z hz)
            rw [fitE, if_neg hF]
        · have hF : ¬ Fit f d x y c zs := fun hF => hn (by rw [← hZ.len]; exact hF.2.1)
          rw [fitE, if_neg hF]
          exact fits_n f d x y c a n cap w hx hy hc hn
      · have hF : ¬ Fit f d x y c zs := fun hF => hc hF.1.2
        rw [fitE, if_neg hF]
        exact fits_c f d x y c a n cap w hx hy hc
    · have hF : ¬ Fit f d x y c zs := fun hF => hy hF.1.1.2
      rw [fitE, if_neg hF]
      exact fits_y f d x y c a n cap w hx hy
  · have hF : ¬ Fit f d x y c zs := fun hF => hx hF.1.1.1
    rw [fitE, if_neg hF]
    exact fits_x f d x y c a n cap w hx

end Go.Proofs.Ytihbhbeaihdgnaa.Knd
