/-
  The document's own functions of layer 5: paired at OpMod, OpMin and OpMax; ends.
-/
import Derived.Test.YtihbhbeaihdgnaaGreatRGT
namespace Go.Proofs.YtihbhbeaihdgnaaGreat.Spn
open Go.RowKit Go.IntWalk Go.Sort
set_option linter.unusedVariables false
attribute [local go_sem] fld0 fld1

/-- The four blocks of OpMod. -/
structure B4 (w W : World) (g : Nat) (a b c d x y : Int) : Prop where
  b : B3 w W a b c d 0 0
  o : HasC W g 74 #[.int .i64 x, .int .i64 y]
  lt : w.heap.size + 1 + 1 < g
theorem B4.later {w W W' : World} {g : Nat} {a b c d x y : Int} (h : B4 w W g a b c d x y) (hb : Below W.heap.size W W') : B4 w W' g a b c d x y := ⟨h.b.later hb, h.o.below hb, h.lt⟩
theorem B4.set0 {w W : World} {g : Nat} {a b c d x y : Int} (h : B4 w W g a b c d x y) (x' : Int) : B4 w (W.setCell ⟨g, 0, none⟩ (.int .i64 x')) g a b c d x' y := by
  have hl := h.lt
  have o := fun {n : Nat} {t : TypeId} {cs : Array Value} (hn : n ≠ g) (hh : HasC W n t cs) => hh.other (p := ⟨g, 0, none⟩) hn (.int .i64 x')
  exact ⟨⟨o (by omega) h.b.a, o (by omega) h.b.b, o (by omega) h.b.r, h.b.bel.setCell (p := ⟨g, 0, none⟩) (by simp; omega) _⟩, h.o.set 0 _, hl⟩
theorem B4.set1 {w W : World} {g : Nat} {a b c d x y : Int} (h : B4 w W g a b c d x y) (y' : Int) : B4 w (W.setCell ⟨g, 1, none⟩ (.int .i64 y')) g a b c d x y' := by
  have hl := h.lt
  have o := fun {n : Nat} {t : TypeId} {cs : Array Value} (hn : n ≠ g) (hh : HasC W n t cs) => hh.other (p := ⟨g, 1, none⟩) hn (.int .i64 y')
  exact ⟨⟨o (by omega) h.b.a, o (by omega) h.b.b, o (by omega) h.b.r, h.b.bel.setCell (p := ⟨g, 1, none⟩) (by simp; omega) _⟩, h.o.set 1 _, hl⟩

set_option maxRecDepth 100000 in
set_option maxHeartbeats 2000000 in
theorem qpair_12 (a b c d : Int) (w : World) (ha : W32 a) (hb : W32 b) (hc : W32 c) (hd : W32 d) (hcd : c ≤ d) (h0 : hasB c d 0 = false) :
    Calls Tryz.prog 99 #[.int .i64 12, .agg #[.int .i64 a, .int .i64 b], .agg #[.int .i64 c, .int .i64 d]] w fun e w' => e = .returned (spV (leftZ a b c d, 0)) ∧ Below w.heap.size w w' := by
  have HB := hide (B3.start w a b c d 0 0)
  have HH := fun w => hide (rhas_any c d 0 w)
  rw [h0] at HH
  have hz : ¬ (c ≤ 0 ∧ 0 ≤ d) := fun hh => by rw [hasB_iff.2 hh] at h0; cases h0
  clear h0
  have hmm : max (max (max c d) (-c)) (-d) = max (-c) d := by omega
  have HU := fun W => hide (hull4 W c d (-c) (-d))
  rw [hmm] at HU
  obtain ⟨m0, hm0⟩ : ∃ m, max (-c) d = m := ⟨_, rfl⟩
  have hmb : 1 ≤ m0 ∧ m0 ≤ 2147483648 := by omega
  rw [hm0] at HU
  obtain ⟨mi, hmi⟩ : ∃ m, min (min (min c d) (-c)) (-d) = m := ⟨_, rfl⟩
  rw [hmi] at HU
  have hl : leftZ a b c d = (if a < 0 then max a (-(m0 - 1)) else 0, if 0 < b then min b (m0 - 1) else 0) := by unfold leftZ; rw [hm0]
  rw [hl]
  clear hl hmm hmi hz hcd
  have HM := hide hm0
  clear hm0
  by_cases p : a < 0 <;> by_cases q : 0 < b
  · rw [if_pos p, if_pos q]
    have e1 : decide (a < 0) = true := by simp; omega
    have e2 : decide (0 < b) = true := by simp; omega
    go_enter Tryz.func99, Tryz.ntmps99
    go_wp2_with fail
    refine (HH _).out.mono ?_
    rintro e w2 ⟨rfl, hb2⟩
    have HB2 := hide (HB.out.later hb2)
    clear hb2
    obtain ⟨u1, u2, -, -⟩ := facts2 HB2.out.a
    obtain ⟨u3, u4, -, -⟩ := facts2 HB2.out.b
    go_wp2_with fail
    refine (HU _).out.mono ?_
    rintro e w3 ⟨rfl, hb3⟩
    have HB3 := hide (⟨(HB2.out.later (bel (bel1 _ _) hb3)).later (bel1 _ (cs 0 0)), HasC.new w3 74 #[.int .i64 0, .int .i64 0], by have := (HB2.out.later (bel (bel1 _ _) hb3)).r.lt; omega⟩ : B4 w (w3.alloc (cs 0 0)) w3.heap.size a b c d 0 0)
    clear hb3 HB2 u1 u2 u3 u4
    obtain ⟨u1, u2, -, -⟩ := facts2 HB3.out.b.a
    obtain ⟨u5, u6, u7, u8⟩ := facts2 HB3.out.b.r
    have HU50 := hull2 (w3.alloc (cs 0 0)) a (-(m0 - 1))
    simp only [World.size_alloc] at HU50
    have HU5 := hide HU50
    clear HU50
    go_wp2_with fail
    refine HU5.out.mono ?_
    rintro e w5 ⟨rfl, hb5⟩
    have HB5 := hide (HB3.out.later (bel (bel1 _ (.cells #[.int .i64 a, .int .i64 (-(m0 - 1))] 3)) (by simpa using hb5)))
    clear hb5 HB3 u1 u2 u5 u6 u7 u8
    obtain ⟨u1, u2, -, -⟩ := facts2 HB5.out.b.a
    obtain ⟨u5, u6, u7, u8⟩ := facts2 HB5.out.b.r
    obtain ⟨o1, o2, o3, o4⟩ := facts2 HB5.out.o
    have hl5 := HB5.out.lt
    have ka5 : w.heap.size ≠ w3.heap.size := by omega
    have kb5 : w.heap.size + 1 + 1 ≠ w3.heap.size := by omega
    have kc5 : w3.heap.size ≠ w.heap.size := by omega
    have kd5 : w3.heap.size ≠ w.heap.size + 1 + 1 := by omega
    obtain ⟨X, hX⟩ : ∃ z, max a (-(m0 - 1)) = z := ⟨_, rfl⟩
    obtain ⟨X', hX'⟩ : ∃ z, min a (-(m0 - 1)) = z := ⟨_, rfl⟩
    rw [hX, hX']
    have HX := hide hX
    clear hX hX'
    have HB6 := hide (HB5.out.set0 X)
    have HU70 := hull2 (w5.setCell ⟨w3.heap.size, 0, none⟩ (.int .i64 X)) b (m0 - 1)
    simp only [World.size_alloc, World.size_setCell] at HU70
    have HU7 := hide HU70
    clear HU70
    go_wp2_with fail
    refine HU7.out.mono ?_
    rintro e w7 ⟨rfl, hb7⟩
    have HB7 := hide (HB6.out.later (bel (bel1 _ (.cells #[.int .i64 b, .int .i64 (m0 - 1)] 3)) (by simpa using hb7)))
    clear hb7 HB6 u1 u2 u5 u6 u7 u8 o1 o2 o3 o4
    obtain ⟨u1, u2, -, -⟩ := facts2 HB7.out.b.a
    obtain ⟨u5, u6, u7, u8⟩ := facts2 HB7.out.b.r
    obtain ⟨o1, o2, o3, o4⟩ := facts2 HB7.out.o
    have hl7 := HB7.out.lt
    have ka7 : w.heap.size ≠ w3.heap.size := by omega
    have kb7 : w.heap.size + 1 + 1 ≠ w3.heap.size := by omega
    have kc7 : w3.heap.size ≠ w.heap.size := by omega
    have kd7 : w3.heap.size ≠ w.heap.size + 1 + 1 := by omega
    obtain ⟨Y, hY⟩ : ∃ z, min b (m0 - 1) = z := ⟨_, rfl⟩
    obtain ⟨Y', hY'⟩ : ∃ z, max b (m0 - 1) = z := ⟨_, rfl⟩
    rw [hY, hY']
    have HY := hide hY
    clear hY hY'
    go_wp2_with fail
    have HB8 := hide (HB7.out.set1 Y)
    obtain ⟨c0, c1, hB4⟩ := stored2 HB8.out.b.r HB8.out.b.bel (by omega) X Y
    exact bodyPost_ret (v := .tuple #[.agg #[.int .i64 X, .int .i64 Y], .int .i64 0]) (by simp [results, Tryz.results99, go_sem, c0, c1]) rfl ⟨by rw [← HX.out, ← HY.out], hB4⟩
  · rw [if_pos p, if_neg q]
    have e1 : decide (a < 0) = true := by simp; omega
    have e2 : decide (0 < b) = false := by simp; omega
    go_enter Tryz.func99, Tryz.ntmps99
    go_wp2_with fail
    refine (HH _).out.mono ?_
    rintro e w2 ⟨rfl, hb2⟩
    have HB2 := hide (HB.out.later hb2)
    clear hb2
    obtain ⟨u1, u2, -, -⟩ := facts2 HB2.out.a
    obtain ⟨u3, u4, -, -⟩ := facts2 HB2.out.b
    go_wp2_with fail
    refine (HU _).out.mono ?_
    rintro e w3 ⟨rfl, hb3⟩
    have HB3 := hide (⟨(HB2.out.later (bel (bel1 _ _) hb3)).later (bel1 _ (cs 0 0)), HasC.new w3 74 #[.int .i64 0, .int .i64 0], by have := (HB2.out.later (bel (bel1 _ _) hb3)).r.lt; omega⟩ : B4 w (w3.alloc (cs 0 0)) w3.heap.size a b c d 0 0)
    clear hb3 HB2 u1 u2 u3 u4
    obtain ⟨u1, u2, -, -⟩ := facts2 HB3.out.b.a
    obtain ⟨u5, u6, u7, u8⟩ := facts2 HB3.out.b.r
    have HU50 := hull2 (w3.alloc (cs 0 0)) a (-(m0 - 1))
    simp only [World.size_alloc] at HU50
    have HU5 := hide HU50
    clear HU50
    go_wp2_with fail
    refine HU5.out.mono ?_
    rintro e w5 ⟨rfl, hb5⟩
    have HB5 := hide (HB3.out.later (bel (bel1 _ (.cells #[.int .i64 a, .int .i64 (-(m0 - 1))] 3)) (by simpa using hb5)))
    clear hb5 HB3 u1 u2 u5 u6 u7 u8
    obtain ⟨u1, u2, -, -⟩ := facts2 HB5.out.b.a
    obtain ⟨u5, u6, u7, u8⟩ := facts2 HB5.out.b.r
    obtain ⟨o1, o2, o3, o4⟩ := facts2 HB5.out.o
    have hl5 := HB5.out.lt
    have ka5 : w.heap.size ≠ w3.heap.size := by omega
    have kb5 : w.heap.size + 1 + 1 ≠ w3.heap.size := by omega
    have kc5 : w3.heap.size ≠ w.heap.size := by omega
    have kd5 : w3.heap.size ≠ w.heap.size + 1 + 1 := by omega
    obtain ⟨X, hX⟩ : ∃ z, max a (-(m0 - 1)) = z := ⟨_, rfl⟩
    obtain ⟨X', hX'⟩ : ∃ z, min a (-(m0 - 1)) = z := ⟨_, rfl⟩
    rw [hX, hX']
    have HX := hide hX
    clear hX hX'
    go_wp2_with fail
    have HB6 := hide (HB5.out.set0 X)
    obtain ⟨c0, c1, hB4⟩ := stored2 HB6.out.b.r HB6.out.b.bel (by omega) X 0
    exact bodyPost_ret (v := .tuple #[.agg #[.int .i64 X, .int .i64 0], .int .i64 0]) (by simp [results, Tryz.results99, go_sem, c0, c1]) rfl ⟨by rw [← HX.out], hB4⟩
  · rw [if_neg p, if_pos q]
    have e1 : decide (a < 0) = false := by simp; omega
    have e2 : decide (0 < b) = true := by simp; omega
    go_enter Tryz.func99, Tryz.ntmps99
    go_wp2_with fail
    refine (HH _).out.mono ?_
    rintro e w2 ⟨rfl, hb2⟩
    have HB2 := hide (HB.out.later hb2)
    clear hb2
    obtain ⟨u1, u2, -, -⟩ := facts2 HB2.out.a
    obtain ⟨u3, u4, -, -⟩ := facts2 HB2.out.b
    go_wp2_with fail
    refine (HU _).out.mono ?_
    rintro e w3 ⟨rfl, hb3⟩
    have HB3 := hide (⟨(HB2.out.later (bel (bel1 _ _) hb3)).later (bel1 _ (cs 0 0)), HasC.new w3 74 #[.int .i64 0, .int .i64 0], by have := (HB2.out.later (bel (bel1 _ _) hb3)).r.lt; omega⟩ : B4 w (w3.alloc (cs 0 0)) w3.heap.size a b c d 0 0)
    clear hb3 HB2 u1 u2 u3 u4
    obtain ⟨u1, u2, -, -⟩ := facts2 HB3.out.b.a
    obtain ⟨u5, u6, u7, u8⟩ := facts2 HB3.out.b.r
    have HU50 := hull2 (w3.alloc (cs 0 0)) b (m0 - 1)
    simp only [World.size_alloc] at HU50
    have HU5 := hide HU50
    clear HU50
    go_wp2_with fail
    refine HU5.out.mono ?_
    rintro e w5 ⟨rfl, hb5⟩
    have HB5 := hide (HB3.out.later (bel (bel1 _ (.cells #[.int .i64 b, .int .i64 (m0 - 1)] 3)) (by simpa using hb5)))
    clear hb5 HB3 u1 u2 u5 u6 u7 u8
    obtain ⟨u1, u2, -, -⟩ := facts2 HB5.out.b.a
    obtain ⟨u5, u6, u7, u8⟩ := facts2 HB5.out.b.r
    obtain ⟨o1, o2, o3, o4⟩ := facts2 HB5.out.o
    have hl5 := HB5.out.lt
    have ka5 : w.heap.size ≠ w3.heap.size := by omega
    have kb5 : w.heap.size + 1 + 1 ≠ w3.heap.size := by omega
    have kc5 : w3.heap.size ≠ w.heap.size := by omega
    have kd5 : w3.heap.size ≠ w.heap.size + 1 + 1 := by omega
    obtain ⟨Y, hY⟩ : ∃ z, min b (m0 - 1) = z := ⟨_, rfl⟩
    obtain ⟨Y', hY'⟩ : ∃ z, max b (m0 - 1) = z := ⟨_, rfl⟩
    rw [hY, hY']
    have HY := hide hY
    clear hY hY'
    go_wp2_with fail
    have HB6 := hide (HB5.out.set1 Y)
    obtain ⟨c0, c1, hB4⟩ := stored2 HB6.out.b.r HB6.out.b.bel (by omega) 0 Y
    exact bodyPost_ret (v := .tuple #[.agg #[.int .i64 0, .int .i64 Y], .int .i64 0]) (by simp [results, Tryz.results99, go_sem, c0, c1]) rfl ⟨by rw [← HY.out], hB4⟩
  · rw [if_neg p, if_neg q]
    have e1 : decide (a < 0) = false := by simp; omega
    have e2 : decide (0 < b) = false := by simp; omega
    go_enter Tryz.func99, Tryz.ntmps99
    go_wp2_with fail
    refine (HH _).out.mono ?_
    rintro e w2 ⟨rfl, hb2⟩
    have HB2 := hide (HB.out.later hb2)
    clear hb2
    obtain ⟨u1, u2, -, -⟩ := facts2 HB2.out.a
    obtain ⟨u3, u4, -, -⟩ := facts2 HB2.out.b
    go_wp2_with fail
    refine (HU _).out.mono ?_
    rintro e w3 ⟨rfl, hb3⟩
    have HB3 := hide (⟨(HB2.out.later (bel (bel1 _ _) hb3)).later (bel1 _ (cs 0 0)), HasC.new w3 74 #[.int .i64 0, .int .i64 0], by have := (HB2.out.later (bel (bel1 _ _) hb3)).r.lt; omega⟩ : B4 w (w3.alloc (cs 0 0)) w3.heap.size a b c d 0 0)
    clear hb3 HB2 u1 u2 u3 u4
    obtain ⟨u1, u2, -, -⟩ := facts2 HB3.out.b.a
    obtain ⟨u5, u6, u7, u8⟩ := facts2 HB3.out.b.r
    go_wp2_with fail
    obtain ⟨c0, c1, hB4⟩ := stored2 HB3.out.b.r HB3.out.b.bel (by omega) 0 0
    exact bodyPost_ret (v := .tuple #[.agg #[.int .i64 0, .int .i64 0], .int .i64 0]) (by simp [results, Tryz.results99, go_sem, c0, c1]) rfl ⟨rfl, hB4⟩

end Go.Proofs.YtihbhbeaihdgnaaGreat.Spn

/-
  The document's own functions of layer 5: paired at OpMin and OpMax.
-/
namespace Go.Proofs.YtihbhbeaihdgnaaGreat.Spn
open Go.RowKit Go.IntWalk Go.Sort
set_option linter.unusedVariables false
attribute [local go_sem] fld0 fld1

theorem hullI2 (p : Option Addr) (x y : Int) (w : World) (h : Ints w p 2 2 [x, y]) : Calls Tryz.prog 91 #[.slice p 2 2] w fun e w' => e = .returned (.agg #[.int .i64 (min x y), .int .i64 (max x y)]) ∧ Below w.heap.size w w' := by
  have h' := hull_any _ 2 2 _ _ h (by decide) (by decide)
  rw [(h2 x y).1, (h2 x y).2] at h'
  exact h'
theorem lit2s (W : World) (o : Obj) (x y : Int) : Ints ((W.alloc o).alloc (.cells #[.int .i64 x, .int .i64 y] 3)) (some ⟨W.heap.size + 1, 0, none⟩) 2 2 [x, y] := by
  have h := lit2 (W.alloc o) 3 x y
  simpa only [World.size_alloc] using h
theorem cell_old2 {W : World} {o o' : Obj} {b i : Nat} (h : b < W.heap.size) : ((W.alloc o).alloc o').cell? ⟨b, i, none⟩ = W.cell? ⟨b, i, none⟩ := (bel (bel1 W o) (bel1 _ o')).cell (p := ⟨b, i, none⟩) h

set_option maxRecDepth 100000 in
set_option maxHeartbeats 4000000 in
theorem qpair_24 (a b c d : Int) (w : World) : Calls Tryz.prog 99 #[.int .i64 24, .agg #[.int .i64 a, .int .i64 b], .agg #[.int .i64 c, .int .i64 d]] w fun e w' => e = .returned (spV ((min a c, min b d), 0)) ∧ Below w.heap.size w w' := by
  have HB := hide (B3.start w a b c d 0 0)
  go_enter Tryz.func99, Tryz.ntmps99
  go_wp2_with fail
  obtain ⟨W, hW⟩ : ∃ W, ((w.alloc (.cells #[.int .i64 a, .int .i64 b] 74)).alloc (.cells #[.int .i64 c, .int .i64 d] 74)).alloc (.cells #[.int .i64 0, .int .i64 0] 74) = W := ⟨_, rfl⟩
  rw [hW] at HB ⊢
  clear hW
  obtain ⟨d0, d1, -, -⟩ := facts2 HB.out.a
  obtain ⟨d2, d3, -, -⟩ := facts2 HB.out.b
  have hl0 := HB.out.a.lt
  have hl2 := HB.out.b.lt
  have hl3 := HB.out.r.lt
  go_region_held3 (fun w' => w'.cell? ⟨w.heap.size, 0, none⟩ = some (.int .i64 a) ∧ w'.cell? ⟨w.heap.size, 1, none⟩ = some (.int .i64 b) ∧ w'.cell? ⟨w.heap.size + 1, 0, none⟩ = some (.int .i64 c) ∧ w'.cell? ⟨w.heap.size + 1, 1, none⟩ = some (.int .i64 d))
    (first | exact ⟨d0, d1, d2, d3⟩ | exact ⟨v0, v1, v2, v3⟩ | exact ⟨t0, t1, t2, t3⟩ | exact ⟨(cell_old hl0).trans d0, (cell_old hl0).trans d1, (cell_old hl2).trans d2, (cell_old hl2).trans d3⟩ | exact ⟨(cell_old kl0).trans t0, (cell_old kl0).trans t1, (cell_old kl2).trans t2, (cell_old kl2).trans t3⟩ | exact ⟨(cell_old2 hl0).trans d0, (cell_old2 hl0).trans d1, (cell_old2 hl2).trans d2, (cell_old2 hl2).trans d3⟩ | exact ⟨far2 (Nat.lt_succ_self _) (by omega) v0, far2 (Nat.lt_succ_self _) (by omega) v1, far2 (Nat.lt_succ_self _) (by omega) v2, far2 (Nat.lt_succ_self _) (by omega) v3⟩ | go_keep)
    (first
      | (go_at_call 91; refine (hullI2 _ a c _ ?_).mono ?_; (first | exact (lit2 W 3 a c).later (below_drew _) | exact ((lit2 W 3 a c).later (bel1 _ _)).later (below_drew _) | exact (lit2s W _ a c).later (below_drew _)); rintro e' w2 ⟨rfl, hb2⟩; have HB9 := hide ((by first | exact HB.out.later (bel (bel (bel1 _ _) (below_drew _)) hb2) | exact HB.out.later (bel (bel (bel (bel1 _ _) (bel1 _ _)) (below_drew _)) hb2) : B3 w w2 a b c d 0 0)); obtain ⟨t0, t1, -, -⟩ := facts2 HB9.out.a; obtain ⟨t2, t3, -, -⟩ := facts2 HB9.out.b; have kl0 := HB9.out.a.lt; have kl2 := HB9.out.b.lt)
      | (go_at_call 91; refine (hullI2 _ b d _ ?_).mono ?_; (first | exact lit2 _ 3 b d | exact (((lit2 W 3 b d).later (bel1 _ _)).later (below_drew _)).later hb2 | exact ((lit2s W _ b d).later (below_drew _)).later hb2); rintro e' w3 ⟨rfl, hb3⟩; have HB10 := hide ((by first | exact HB9.out.later hb3 | exact HB9.out.later (bel (bel1 _ _) hb3) : B3 w w3 a b c d 0 0)); obtain ⟨v0, v1, -, -⟩ := facts2 HB10.out.a; obtain ⟨v2, v3, -, -⟩ := facts2 HB10.out.b; obtain ⟨s1, s2, s3, s4⟩ := facts2 HB10.out.r))
  all_goals
    go_wp2_with fail
    obtain ⟨e0, e1, hB4⟩ := stored2 HB10.out.r HB10.out.bel (by omega) (min a c) (min b d)
    exact bodyPost_ret (v := .tuple #[.agg #[.int .i64 (min a c), .int .i64 (min b d)], .int .i64 0]) (by simp [results, Tryz.results99, go_sem, e0, e1]) rfl ⟨rfl, hB4⟩

set_option maxRecDepth 100000 in
set_option maxHeartbeats 4000000 in
theorem qpair_25 (a b c d : Int) (w : World) : Calls Tryz.prog 99 #[.int .i64 25, .agg #[.int .i64 a, .int .i64 b], .agg #[.int .i64 c, .int .i64 d]] w fun e w' => e = .returned (spV ((max a c, max b d), 0)) ∧ Below w.heap.size w w' := by
  have HB := hide (B3.start w a b c d 0 0)
  go_enter Tryz.func99, Tryz.ntmps99
  go_wp2_with fail
  obtain ⟨W, hW⟩ : ∃ W, ((w.alloc (.cells #[.int .i64 a, .int .i64 b] 74)).alloc (.cells #[.int .i64 c, .int .i64 d] 74)).alloc (.cells #[.int .i64 0, .int .i64 0] 74) = W := ⟨_, rfl⟩
  rw [hW] at HB ⊢
  clear hW
  obtain ⟨d0, d1, -, -⟩ := facts2 HB.out.a
  obtain ⟨d2, d3, -, -⟩ := facts2 HB.out.b
  have hl0 := HB.out.a.lt
  have hl2 := HB.out.b.lt
  have hl3 := HB.out.r.lt
  go_region_held3 (fun w' => w'.cell? ⟨w.heap.size, 0, none⟩ = some (.int .i64 a) ∧ w'.cell? ⟨w.heap.size, 1, none⟩ = some (.int .i64 b) ∧ w'.cell? ⟨w.heap.size + 1, 0, none⟩ = some (.int .i64 c) ∧ w'.cell? ⟨w.heap.size + 1, 1, none⟩ = some (.int .i64 d))
    (first | exact ⟨d0, d1, d2, d3⟩ | exact ⟨v0, v1, v2, v3⟩ | exact ⟨t0, t1, t2, t3⟩ | exact ⟨(cell_old hl0).trans d0, (cell_old hl0).trans d1, (cell_old hl2).trans d2, (cell_old hl2).trans d3⟩ | exact ⟨(cell_old kl0).trans t0, (cell_old kl0).trans t1, (cell_old kl2).trans t2, (cell_old kl2).trans t3⟩ | exact ⟨(cell_old2 hl0).trans d0, (cell_old2 hl0).trans d1, (cell_old2 hl2).trans d2, (cell_old2 hl2).trans d3⟩ | exact ⟨far2 (Nat.lt_succ_self _) (by omega) v0, far2 (Nat.lt_succ_self _) (by omega) v1, far2 (Nat.lt_succ_self _) (by omega) v2, far2 (Nat.lt_succ_self _) (by omega) v3⟩ | go_keep)
    (first
      | (go_at_call 91; refine (hullI2 _ a c _ ?_).mono ?_; (first | exact (lit2 W 3 a c).later (below_drew _) | exact ((lit2 W 3 a c).later (bel1 _ _)).later (below_drew _) | exact (lit2s W _ a c).later (below_drew _)); rintro e' w2 ⟨rfl, hb2⟩; have HB9 := hide ((by first | exact HB.out.later (bel (bel (bel1 _ _) (below_drew _)) hb2) | exact HB.out.later (bel (bel (bel (bel1 _ _) (bel1 _ _)) (below_drew _)) hb2) : B3 w w2 a b c d 0 0)); obtain ⟨t0, t1, -, -⟩ := facts2 HB9.out.a; obtain ⟨t2, t3, -, -⟩ := facts2 HB9.out.b; have kl0 := HB9.out.a.lt; have kl2 := HB9.out.b.lt)
      | (go_at_call 91; refine (hullI2 _ b d _ ?_).mono ?_; (first | exact lit2 _ 3 b d | exact (((lit2 W 3 b d).later (bel1 _ _)).later (below_drew _)).later hb2 | exact ((lit2s W _ b d).later (below_drew _)).later hb2); rintro e' w3 ⟨rfl, hb3⟩; have HB10 := hide ((by first | exact HB9.out.later hb3 | exact HB9.out.later (bel (bel1 _ _) hb3) : B3 w w3 a b c d 0 0)); obtain ⟨v0, v1, -, -⟩ := facts2 HB10.out.a; obtain ⟨v2, v3, -, -⟩ := facts2 HB10.out.b; obtain ⟨s1, s2, s3, s4⟩ := facts2 HB10.out.r))
  all_goals
    go_wp2_with fail
    obtain ⟨e0, e1, hB4⟩ := stored2 HB10.out.r HB10.out.bel (by omega) (max a c) (max b d)
    exact bodyPost_ret (v := .tuple #[.agg #[.int .i64 (max a c), .int .i64 (max b d)], .int .i64 0]) (by simp [results, Tryz.results99, go_sem, e0, e1]) rfl ⟨rfl, hB4⟩

end Go.Proofs.YtihbhbeaihdgnaaGreat.Spn

/-
  The document's own functions of layer 5: plain, of one span.
-/
namespace Go.Proofs.YtihbhbeaihdgnaaGreat.Spn
open Go.RowKit Go.IntWalk Go.Sort
set_option linter.unusedVariables false
attribute [local go_sem] fld0 fld1

set_option maxRecDepth 100000 in
set_option maxHeartbeats 2000000 in
theorem qplain_5 (k s a b : Int) (bb off cap : Nat) (w : World) (hcap : 1 ≤ cap) (hlt : bb < w.heap.size) (c0 : w.cell? ⟨bb, off, none⟩ = some (.int .i64 a)) (c1 : w.cell? ⟨bb, off + 1, none⟩ = some (.int .i64 b)) (ha : W32 a) (hb : W32 b) :
    Calls Tryz.prog 53 #[.int .i64 5, .int .i64 k, .int .i64 s, .slice (some ⟨bb, off, none⟩) 1 cap] w fun e w' => e = .returned (spV ((-b, -a), 0)) ∧ Below w.heap.size w w' := by
  have d0 := (cell_old (o := cs 0 0) (i := off) hlt).trans c0
  have d1 := (cell_old (o := cs 0 0) (i := off + 1) hlt).trans c1
  have HB := hide (B3.start w 0 0 a b k k)
  clear c0 c1
  go_enter Tryz.func53, Tryz.ntmps53
  go_wp2_with fail
  exact bodyPost_ret (v := .tuple #[.agg #[.int .i64 (-b), .int .i64 (-a)], .int .i64 0]) (by simp [results, Tryz.results53, go_sem]) rfl ⟨rfl, bel3 _ _ _ _ _⟩

set_option maxRecDepth 100000 in
set_option maxHeartbeats 2000000 in
theorem qplain_6 (k s a b : Int) (bb off cap : Nat) (w : World) (hcap : 1 ≤ cap) (hlt : bb < w.heap.size) (c0 : w.cell? ⟨bb, off, none⟩ = some (.int .i64 a)) (c1 : w.cell? ⟨bb, off + 1, none⟩ = some (.int .i64 b)) (ha : W32 a) (hb : W32 b) :
    Calls Tryz.prog 53 #[.int .i64 6, .int .i64 k, .int .i64 s, .slice (some ⟨bb, off, none⟩) 1 cap] w fun e w' => e = .returned (spV (if hasB a b 0 = true then (0, max (max (max a b) (-a)) (-b)) else if 0 < a then (a, b) else (-b, -a), 0)) ∧ Below w.heap.size w w' := by
  have d0 := (cell_old (o := cs 0 0) (i := off) hlt).trans c0
  have d1 := (cell_old (o := cs 0 0) (i := off + 1) hlt).trans c1
  have HB := hide (B3.start w 0 0 a b k k)
  clear c0 c1
  have HH := fun w => hide (rhas_any a b 0 w)
  have HU0 := hull4 (((w.alloc (.cells #[.int .i64 0, .int .i64 0] 74)).alloc (.cells #[.int .i64 a, .int .i64 b] 74)).alloc (.cells #[.int .i64 k, .int .i64 k] 74)) a b (-a) (-b)
  simp only [World.size_alloc] at HU0
  have HU := hide HU0
  clear HU0
  obtain ⟨M, hM⟩ : ∃ M, max (max (max a b) (-a)) (-b) = M := ⟨_, rfl⟩
  obtain ⟨M', hM'⟩ : ∃ M, min (min (min a b) (-a)) (-b) = M := ⟨_, rfl⟩
  rw [hM, hM'] at HU
  rw [hM]
  clear hM hM'
  cases h0 : hasB a b 0
  · rw [h0] at HH
    rw [if_neg (by simp)]
    by_cases h1 : 0 < a
    · rw [if_pos h1]
      have e1 : decide (0 < a) = true := by simp; omega
      go_enter Tryz.func53, Tryz.ntmps53
      go_wp2_with fail
      refine HU.out.mono ?_
      rintro e w2 ⟨rfl, hb2⟩
      have HB2 := hide (HB.out.later (bel (bel1 _ (.cells #[.int .i64 a, .int .i64 b, .int .i64 (-a), .int .i64 (-b)] 3)) (by simpa using hb2)))
      clear hb2
      obtain ⟨u1, u2, -, -⟩ := facts2 HB2.out.b
      go_wp2_with fail
      refine (HH _).out.mono ?_
      rintro e w3 ⟨rfl, hb3⟩
      have HB3 := hide (HB2.out.later hb3)
      clear hb3 u1 u2
      obtain ⟨u1, u2, -, -⟩ := facts2 HB3.out.b
      obtain ⟨u5, u6, u7, u8⟩ := facts2 HB3.out.a
      go_wp2_with fail
      obtain ⟨f0, f1, hB4⟩ := stored2 HB3.out.a HB3.out.bel (Nat.le_refl _) a b
      exact bodyPost_ret (v := .tuple #[.agg #[.int .i64 a, .int .i64 b], .int .i64 0]) (by simp [results, Tryz.results53, go_sem, f0, f1]) rfl ⟨rfl, hB4⟩
    · rw [if_neg h1]
      have e1 : decide (0 < a) = false := by simp; omega
      go_enter Tryz.func53, Tryz.ntmps53
      go_wp2_with fail
      refine HU.out.mono ?_
      rintro e w2 ⟨rfl, hb2⟩
      have HB2 := hide (HB.out.later (bel (bel1 _ (.cells #[.int .i64 a, .int .i64 b, .int .i64 (-a), .int .i64 (-b)] 3)) (by simpa using hb2)))
      clear hb2
      obtain ⟨u1, u2, -, -⟩ := facts2 HB2.out.b
      go_wp2_with fail
      refine (HH _).out.mono ?_
      rintro e w3 ⟨rfl, hb3⟩
      have HB3 := hide (HB2.out.later hb3)
      clear hb3 u1 u2
      obtain ⟨u1, u2, -, -⟩ := facts2 HB3.out.b
      obtain ⟨u5, u6, u7, u8⟩ := facts2 HB3.out.a
      go_wp2_with fail
      obtain ⟨f0, f1, hB4⟩ := stored2 HB3.out.a HB3.out.bel (Nat.le_refl _) (-b) (-a)
      exact bodyPost_ret (v := .tuple #[.agg #[.int .i64 (-b), .int .i64 (-a)], .int .i64 0]) (by simp [results, Tryz.results53, go_sem, f0, f1]) rfl ⟨rfl, hB4⟩
  · rw [h0] at HH
    rw [if_pos rfl]
    go_enter Tryz.func53, Tryz.ntmps53
    go_wp2_with fail
    refine HU.out.mono ?_
    rintro e w2 ⟨rfl, hb2⟩
    have HB2 := hide (HB.out.later (bel (bel1 _ (.cells #[.int .i64 a, .int .i64 b, .int .i64 (-a), .int .i64 (-b)] 3)) (by simpa using hb2)))
    clear hb2
    obtain ⟨u1, u2, -, -⟩ := facts2 HB2.out.b
    go_wp2_with fail
    refine (HH _).out.mono ?_
    rintro e w3 ⟨rfl, hb3⟩
    have HB3 := hide (HB2.out.later hb3)
    clear hb3 u1 u2
    obtain ⟨u1, u2, -, -⟩ := facts2 HB3.out.b
    obtain ⟨u5, u6, u7, u8⟩ := facts2 HB3.out.a
    go_wp2_with fail
    obtain ⟨f0, f1, hB4⟩ := stored2 HB3.out.a HB3.out.bel (Nat.le_refl _) 0 M
    exact bodyPost_ret (v := .tuple #[.agg #[.int .i64 0, .int .i64 M], .int .i64 0]) (by simp [results, Tryz.results53, go_sem, f0, f1]) rfl ⟨rfl, hB4⟩

theorem lit1' (w : World) (t : TypeId) (x : Int) : Ints (w.alloc (.cells #[.int .i64 x] t)) (some ⟨w.heap.size, 0, none⟩) 1 1 [x] := by
  refine ⟨rfl, Nat.le_refl _, by decide, (fun h => by cases h), .inr ⟨_, _, rfl, fun i hi => ?_⟩⟩
  obtain rfl : i = 0 := by omega
  simp

set_option maxRecDepth 100000 in
set_option maxHeartbeats 2000000 in
theorem qplain_7 (k s a b : Int) (bb off cap : Nat) (w : World) (hcap : 1 ≤ cap) (hlt : bb < w.heap.size) (c0 : w.cell? ⟨bb, off, none⟩ = some (.int .i64 a)) (c1 : w.cell? ⟨bb, off + 1, none⟩ = some (.int .i64 b)) (ha : W32 a) (hb : W32 b) :
    Calls Tryz.prog 53 #[.int .i64 7, .int .i64 k, .int .i64 s, .slice (some ⟨bb, off, none⟩) 1 cap] w fun e w' => e = .returned (spV (((valZ 7 0 0 [a]).1, (valZ 7 0 0 [b]).1), 0)) ∧ Below w.heap.size w w' := by
  have d0 := (cell_old (o := cs 0 0) (i := off) hlt).trans c0
  have d1 := (cell_old (o := cs 0 0) (i := off + 1) hlt).trans c1
  have HB := hide (B3.start w 0 0 a b k k)
  clear c0 c1
  have V10 := rvalue_any 7 0 0 _ 1 1 _ _ (lit1' (((w.alloc (.cells #[.int .i64 0, .int .i64 0] 74)).alloc (.cells #[.int .i64 a, .int .i64 b] 74)).alloc (.cells #[.int .i64 k, .int .i64 k] 74)) 3 a)
  simp only [World.size_alloc] at V10
  have V1 := hide V10
  clear V10
  have V2 := fun W => hide (rvalue_any 7 0 0 _ 1 1 _ _ (lit1' W 3 b))
  obtain ⟨⟨z1, e1⟩, hz1⟩ : ∃ Z, valZ 7 0 0 [a] = Z := ⟨_, rfl⟩
  obtain ⟨⟨z2, e2⟩, hz2⟩ : ∃ Z, valZ 7 0 0 [b] = Z := ⟨_, rfl⟩
  rw [hz1] at V1
  rw [hz2] at V2
  rw [hz1, hz2]
  clear hz1 hz2
  go_enter Tryz.func53, Tryz.ntmps53
  go_wp2_with fail
  refine V1.out.mono ?_
  rintro e w2 ⟨rfl, hw2⟩
  have HB2 := hide (HB.out.later (bel1 _ (.cells #[.int .i64 a] 3)))
  rw [← hw2] at HB2
  clear hw2
  obtain ⟨u1, u2, -, -⟩ := facts2 HB2.out.b
  go_wp2_with fail
  refine (V2 _).out.mono ?_
  rintro e w3 ⟨rfl, hw3⟩
  have HB3 := hide (HB2.out.later (bel1 _ (.cells #[.int .i64 b] 3)))
  rw [← hw3] at HB3
  clear hw3
  obtain ⟨u5, u6, u7, u8⟩ := facts2 HB3.out.a
  go_wp2_with fail
  obtain ⟨f0, f1, hB4⟩ := stored2 HB3.out.a HB3.out.bel (Nat.le_refl _) z1 z2
  exact bodyPost_ret (v := .tuple #[.agg #[.int .i64 z1, .int .i64 z2], .int .i64 0]) (by simp [results, Tryz.results53, go_sem, f0, f1]) rfl ⟨rfl, hB4⟩

set_option maxRecDepth 100000 in
set_option maxHeartbeats 2000000 in
theorem qplain_29 (k s a b : Int) (bb off cap : Nat) (w : World) (hcap : 1 ≤ cap) (hlt : bb < w.heap.size) (c0 : w.cell? ⟨bb, off, none⟩ = some (.int .i64 a)) (c1 : w.cell? ⟨bb, off + 1, none⟩ = some (.int .i64 b)) (ha : W32 a) (hb : W32 b) (Z : Int × Int)
    (H : ∀ W, Calls Tryz.prog 94 #[.int .i64 13, .agg #[.int .i64 a, .int .i64 b], .agg #[.int .i64 k, .int .i64 k]] W fun e w' => e = .returned (.agg #[.int .i64 Z.1, .int .i64 Z.2]) ∧ Below W.heap.size W w') :
    Calls Tryz.prog 53 #[.int .i64 29, .int .i64 k, .int .i64 s, .slice (some ⟨bb, off, none⟩) 1 cap] w fun e w' => e = .returned (spV (Z, 0)) ∧ Below w.heap.size w w' := by
  have d0 := (cell_old (o := cs 0 0) (i := off) hlt).trans c0
  have d1 := (cell_old (o := cs 0 0) (i := off + 1) hlt).trans c1
  have HB := hide (B3.start w 0 0 a b k k)
  clear c0 c1
  have HC := fun W => hide (H W)
  clear H
  obtain ⟨x, y⟩ := Z
  go_enter Tryz.func53, Tryz.ntmps53
  go_wp2_with fail
  refine (HC _).out.mono ?_
  rintro e w2 ⟨rfl, hb2⟩
  have HB2 := hide (HB.out.later hb2)
  clear hb2
  obtain ⟨u5, u6, u7, u8⟩ := facts2 HB2.out.a
  go_wp2_with fail
  obtain ⟨f0, f1, hB4⟩ := stored2 HB2.out.a HB2.out.bel (Nat.le_refl _) x y
  exact bodyPost_ret (v := .tuple #[.agg #[.int .i64 x, .int .i64 y], .int .i64 0]) (by simp [results, Tryz.results53, go_sem, f0, f1]) rfl ⟨rfl, hB4⟩

set_option maxRecDepth 100000 in
set_option maxHeartbeats 2000000 in
theorem qplain_30 (k s a b : Int) (bb off cap : Nat) (w : World) (hcap : 1 ≤ cap) (hlt : bb < w.heap.size) (c0 : w.cell? ⟨bb, off, none⟩ = some (.int .i64 a)) (c1 : w.cell? ⟨bb, off + 1, none⟩ = some (.int .i64 b)) (ha : W32 a) (hb : W32 b) (Z : Int × Int)
    (H : ∀ W, Calls Tryz.prog 94 #[.int .i64 14, .agg #[.int .i64 a, .int .i64 b], .agg #[.int .i64 k, .int .i64 k]] W fun e w' => e = .returned (.agg #[.int .i64 Z.1, .int .i64 Z.2]) ∧ Below W.heap.size W w') :
    Calls Tryz.prog 53 #[.int .i64 30, .int .i64 k, .int .i64 s, .slice (some ⟨bb, off, none⟩) 1 cap] w fun e w' => e = .returned (spV (Z, 0)) ∧ Below w.heap.size w w' := by
  have d0 := (cell_old (o := cs 0 0) (i := off) hlt).trans c0
  have d1 := (cell_old (o := cs 0 0) (i := off + 1) hlt).trans c1
  have HB := hide (B3.start w 0 0 a b k k)
  clear c0 c1
  have HC := fun W => hide (H W)
  clear H
  obtain ⟨x, y⟩ := Z
  go_enter Tryz.func53, Tryz.ntmps53
  go_wp2_with fail
  refine (HC _).out.mono ?_
  rintro e w2 ⟨rfl, hb2⟩
  have HB2 := hide (HB.out.later hb2)
  clear hb2
  obtain ⟨u5, u6, u7, u8⟩ := facts2 HB2.out.a
  go_wp2_with fail
  obtain ⟨f0, f1, hB4⟩ := stored2 HB2.out.a HB2.out.bel (Nat.le_refl _) x y
  exact bodyPost_ret (v := .tuple #[.agg #[.int .i64 x, .int .i64 y], .int .i64 0]) (by simp [results, Tryz.results53, go_sem, f0, f1]) rfl ⟨rfl, hB4⟩

set_option maxRecDepth 100000 in
set_option maxHeartbeats 2000000 in
theorem qplain_31 (k s a b : Int) (bb off cap : Nat) (w : World) (hcap : 1 ≤ cap) (hlt : bb < w.heap.size) (c0 : w.cell? ⟨bb, off, none⟩ = some (.int .i64 a)) (c1 : w.cell? ⟨bb, off + 1, none⟩ = some (.int .i64 b)) (ha : W32 a) (hb : W32 b) (Z : Int × Int)
    (H : ∀ W, Calls Tryz.prog 95 #[.int .i64 15, .agg #[.int .i64 a, .int .i64 b], .agg #[.int .i64 k, .int .i64 k]] W fun e w' => e = .returned (.agg #[.int .i64 Z.1, .int .i64 Z.2]) ∧ Below W.heap.size W w') :
    Calls Tryz.prog 53 #[.int .i64 31, .int .i64 k, .int .i64 s, .slice (some ⟨bb, off, none⟩) 1 cap] w fun e w' => e = .returned (spV (Z, 0)) ∧ Below w.heap.size w w' := by
  have d0 := (cell_old (o := cs 0 0) (i := off) hlt).trans c0
  have d1 := (cell_old (o := cs 0 0) (i := off + 1) hlt).trans c1
  have HB := hide (B3.start w 0 0 a b k k)
  clear c0 c1
  have HC := fun W => hide (H W)
  clear H
  obtain ⟨x, y⟩ := Z
  go_enter Tryz.func53, Tryz.ntmps53
  go_wp2_with fail
  refine (HC _).out.mono ?_
  rintro e w2 ⟨rfl, hb2⟩
  have HB2 := hide (HB.out.later hb2)
  clear hb2
  obtain ⟨u5, u6, u7, u8⟩ := facts2 HB2.out.a
  go_wp2_with fail
  obtain ⟨f0, f1, hB4⟩ := stored2 HB2.out.a HB2.out.bel (Nat.le_refl _) x y
  exact bodyPost_ret (v := .tuple #[.agg #[.int .i64 x, .int .i64 y], .int .i64 0]) (by simp [results, Tryz.results53, go_sem, f0, f1]) rfl ⟨rfl, hB4⟩

set_option maxRecDepth 100000 in
set_option maxHeartbeats 2000000 in
theorem qplain_32 (k s a b : Int) (bb off cap : Nat) (w : World) (hcap : 1 ≤ cap) (hlt : bb < w.heap.size) (c0 : w.cell? ⟨bb, off, none⟩ = some (.int .i64 a)) (c1 : w.cell? ⟨bb, off + 1, none⟩ = some (.int .i64 b)) (ha : W32 a) (hb : W32 b) (Z : Int × Int)
    (H : ∀ W, Calls Tryz.prog 94 #[.int .i64 10, .agg #[.int .i64 a, .int .i64 b], .agg #[.int .i64 k, .int .i64 k]] W fun e w' => e = .returned (.agg #[.int .i64 Z.1, .int .i64 Z.2]) ∧ Below W.heap.size W w') :
    Calls Tryz.prog 53 #[.int .i64 32, .int .i64 k, .int .i64 s, .slice (some ⟨bb, off, none⟩) 1 cap] w fun e w' => e = .returned (spV (Z, 0)) ∧ Below w.heap.size w w' := by
  have d0 := (cell_old (o := cs 0 0) (i := off) hlt).trans c0
  have d1 := (cell_old (o := cs 0 0) (i := off + 1) hlt).trans c1
  have HB := hide (B3.start w 0 0 a b k k)
  clear c0 c1
  have HC := fun W => hide (H W)
  clear H
  obtain ⟨x, y⟩ := Z
  go_enter Tryz.func53, Tryz.ntmps53
  go_wp2_with fail
  refine (HC _).out.mono ?_
  rintro e w2 ⟨rfl, hb2⟩
  have HB2 := hide (HB.out.later hb2)
  clear hb2
  obtain ⟨u5, u6, u7, u8⟩ := facts2 HB2.out.a
  go_wp2_with fail
  obtain ⟨f0, f1, hB4⟩ := stored2 HB2.out.a HB2.out.bel (Nat.le_refl _) x y
  exact bodyPost_ret (v := .tuple #[.agg #[.int .i64 x, .int .i64 y], .int .i64 0]) (by simp [results, Tryz.results53, go_sem, f0, f1]) rfl ⟨rfl, hB4⟩

end Go.Proofs.YtihbhbeaihdgnaaGreat.Spn
