/-
  The document's own functions of layer 5: paired at OpMod, OpMin and OpMax; ends.
-/
import Derived.Test.YtbandppkhknaoaaQc2
namespace Go.Proofs.Ytbandppkhknaoaa
open Go.RowKit Go.IntWalk Go.Sort
set_option linter.unusedVariables false
attribute [local go_sem] fld0 fld1

/-- The four blocks of OpMod. -/
structure B4 (w W : World) (g : Nat) (a b c d x y : Int) : Prop where
  b : B3 w W a b c d 0 0
  o : HasC W g 26 #[.int .i64 x, .int .i64 y]
  lt : w.heap.size + 1 + 1 < g
theorem B4.later {w W W' : World} {g : Nat} {a b c d x y : Int} (h : B4 w W g a b c d x y) (hb : Below W.heap.size W W') : B4 w W' g a b c d x y := ⟨h.b.later hb, h.o.below hb, h.lt⟩
theorem B4.set0 {w W : World} {g : Nat} {a b c d x y : Int} (h : B4 w W g a b c d x y) (x' : Int) : B4 w (W.setCell ⟨g, 0, none⟩ (.int .i64 x')) g a b c d x' y := by
  have hl := h.lt
  have o := fun {n : Nat} {t : TypeId} {cs : Array Value} (hn : n ≠ g) (hh : HasC W n t cs) => hh.other (p := ⟨g, 0, none⟩) hn (.int .i64 x')
  exact ⟨⟨o (by omega) h.b.a, o (by omega) h.b.b, o (by omega) h.b.r, h.b.bel.setCell (p := ⟨g, 0, none⟩) (by simp; omega) _⟩, h.o.set 0 _, hl⟩
theorem B4.set1 {w W : World} {g : Nat} {a b c d x y : Int} (h : B4 w W g a b c d x y) (y' : Int) : B4 w (W.setCell ⟨g, 1, none⟩ (.int .i64 y')) g a b c d x y' := by
  have hl := h.lt
  have o := fun {n : Nat} {t : TypeId} {cs : Array Value} (hn : n ≠ g) (hh : HasC W n t cs) => hh.other (p := ⟨g, 1, none⟩) hn (.int .i64 y')
  exact ⟨⟨o (by omega) h.b.a, o (by omega) h.b.b, o (by omega) h.b.r, h.b.bel.setCell (p := ⟨g, 1, none⟩) (by simp; omega) _⟩, h.o.set 1 _, hl⟩

set_option maxRecDepth 100000 in
set_option maxHeartbeats 2000000 in
theorem qpair_12 (a b c d : Int) (w : World) (ha : W32 a) (hb : W32 b) (hc : W32 c) (hd : W32 d) (hcd : c ≤ d) (h0 : hasB c d 0 = false) :
    Calls Try.prog 46 #[.int .i64 12, .agg #[.int .i64 a, .int .i64 b], .agg #[.int .i64 c, .int .i64 d]] w fun e w' => e = .returned (spV (leftZ a b c d, 0)) ∧ Below w.heap.size w w' := by
  have HB := hide (B3.start w a b c d 0 0)
  have HH := fun w => hide (rhas_any c d 0 w)
  rw [h0] at HH
  have hz : ¬ (c ≤ 0 ∧ 0 ≤ d) := fun hh => by rw [hasB_iff.2 hh] at h0; cases h0
  clear h0
  have hmm : max (max (max c d) (-c)) (-d) = max (-c) d := by omega
  have HU := fun W => hide (hull4 W c d (-c) (-d))
  rw [hmm] at HU
  obtain ⟨m0, hm0⟩ : ∃ m, max (-c) d = m := ⟨_, rfl⟩
  have hmb : 1 ≤ m0 ∧ m0 ≤ 2147483648 := by omega
  rw [hm0] at HU
  obtain ⟨mi, hmi⟩ : ∃ m, min (min (min c d) (-c)) (-d) = m := ⟨_, rfl⟩
  rw [hmi] at HU
  have hl : leftZ a b c d = (if a < 0 then max a (-(m0 - 1)) else 0, if 0 < b then min b (m0 - 1) else 0) := by unfold leftZ; rw [hm0]
  rw [hl]
  clear hl hmm hmi hz hcd
  have HM := hide hm0
  clear hm0
  by_cases p : a < 0 <;> by_cases q : 0 < b
  · rw [if_pos p, if_pos q]
    have e1 : decide (a < 0) = true := by simp; omega
    have e2 : decide (0 < b) = true := by simp; omega
    go_enter Try.func46, Try.ntmps46
    go_wp2_with fail
    refine (HH _).out.mono ?_
    rintro e w2 ⟨rfl, hb2⟩
    have HB2 := hide (HB.out.later hb2)
    clear hb2
    obtain ⟨u1, u2, -, -⟩ := facts2 HB2.out.a
    obtain ⟨u3, u4, -, -⟩ := facts2 HB2.out.b
    go_wp2_with fail
    refine (HU _).out.mono ?_
    rintro e w3 ⟨rfl, hb3⟩
    have HB3 := hide (⟨(HB2.out.later (bel (bel1 _ _) hb3)).later (bel1 _ (cs 0 0)), HasC.new w3 26 #[.int .i64 0, .int .i64 0], by have := (HB2.out.later (bel (bel1 _ _) hb3)).r.lt; omega⟩ : B4 w (w3.alloc (cs 0 0)) w3.heap.size a b c d 0 0)
    clear hb3 HB2 u1 u2 u3 u4
    obtain ⟨u1, u2, -, -⟩ := facts2 HB3.out.b.a
    obtain ⟨u5, u6, u7, u8⟩ := facts2 HB3.out.b.r
    have HU50 := hull2 (w3.alloc (cs 0 0)) a (-(m0 - 1))
    simp only [World.size_alloc] at HU50
    have HU5 := hide HU50
    clear HU50
    go_wp2_with fail
    refine HU5.out.mono ?_
    rintro e w5 ⟨rfl, hb5⟩
    have HB5 := hide (HB3.out.later (bel (bel1 _ (.cells #[.int .i64 a, .int .i64 (-(m0 - 1))] 3)) (by simpa using hb5)))
    clear hb5 HB3 u1 u2 u5 u6 u7 u8
    obtain ⟨u1, u2, -, -⟩ := facts2 HB5.out.b.a
    obtain ⟨u5, u6, u7, u8⟩ := facts2 HB5.out.b.r
    obtain ⟨o1, o2, o3, o4⟩ := facts2 HB5.out.o
    have hl5 := HB5.out.lt
    have ka5 : w.heap.size ≠ w3.heap.size := by omega
    have kb5 : w.heap.size + 1 + 1 ≠ w3.heap.size := by omega
    have kc5 : w3.heap.size ≠ w.heap.size := by omega
    have kd5 : w3.heap.size ≠ w.heap.size + 1 + 1 := by omega
    obtain ⟨X, hX⟩ : ∃ z, max a (-(m0 - 1)) = z := ⟨_, rfl⟩
    obtain ⟨X', hX'⟩ : ∃ z, min a (-(m0 - 1)) = z := ⟨_, rfl⟩
    rw [hX, hX']
    have HX := hide hX
    clear hX hX'
    have HB6 := hide (HB5.out.set0 X)
    have HU70 := hull2 (w5.setCell ⟨w3.heap.size, 0, none⟩ (.int .i64 X)) b (m0 - 1)
    simp only [World.size_alloc, World.size_setCell] at HU70
    have HU7 := hide HU70
    clear HU70
    go_wp2_with fail
    refine HU7.out.mono ?_
    rintro e w7 ⟨rfl, hb7⟩
    have HB7 := hide (HB6.out.later (bel (bel1 _ (.cells #[.int .i64 b, .int .i64 (m0 - 1)] 3)) (by simpa using hb7)))
    clear hb7 HB6 u1 u2 u5 u6 u7 u8 o1 o2 o3 o4
    obtain ⟨u1, u2, -, -⟩ := facts2 HB7.out.b.a
    obtain ⟨u5, u6, u7, u8⟩ := facts2 HB7.out.b.r
    obtain ⟨o1, o2, o3, o4⟩ := facts2 HB7.out.o
    have hl7 := HB7.out.lt
    have ka7 : w.heap.size ≠ w3.heap.size := by omega
    have kb7 : w.heap.size + 1 + 1 ≠ w3.heap.size := by omega
    have kc7 : w3.heap.size ≠ w.heap.size := by omega
    have kd7 : w3.heap.size ≠ w.heap.size + 1 + 1 := by omega
    obtain ⟨Y, hY⟩ : ∃ z, min b (m0 - 1) = z := ⟨_, rfl⟩
    obtain ⟨Y', hY'⟩ : ∃ z, max b (m0 - 1) = z := ⟨_, rfl⟩
    rw [hY, hY']
    have HY := hide hY
    clear hY hY'
    go_wp2_with fail
    have HB8 := hide (HB7.out.set1 Y)
    obtain ⟨c0, c1, hB4⟩ := stored2 HB8.out.b.r HB8.out.b.bel (by omega) X Y
    exact bodyPost_ret (v := .tuple #[.agg #[.int .i64 X, .int .i64 Y], .int .i64 0]) (by simp [results, Try.results46, go_sem, c0, c1]) rfl ⟨by rw [← HX.out, ← HY.out], hB4⟩
  · rw [if_pos p, if_neg q]
    have e1 : decide (a < 0) = true := by simp; omega
    have e2 : decide (0 < b) = false := by simp; omega
    go_enter Try.func46, Try.ntmps46
    go_wp2_with fail
    refine (HH _).out.mono ?_
    rintro e w2 ⟨rfl, hb2⟩
    have HB2 := hide (HB.out.later hb2)
    clear hb2
    obtain ⟨u1, u2, -, -⟩ := facts2 HB2.out.a
    obtain ⟨u3, u4, -, -⟩ := facts2 HB2.out.b
    go_wp2_with fail
    refine (HU _).out.mono ?_
    rintro e w3 ⟨rfl, hb3⟩
    have HB3 := hide (⟨(HB2.out.later (bel (bel1 _ _) hb3)).later (bel1 _ (cs 0 0)), HasC.new w3 26 #[.int .i64 0, .int .i64 0], by have := (HB2.out.later (bel (bel1 _ _) hb3)).r.lt; omega⟩ : B4 w (w3.alloc (cs 0 0)) w3.heap.size a b c d 0 0)
    clear hb3 HB2 u1 u2 u3 u4
    obtain ⟨u1, u2, -, -⟩ := facts2 HB3.out.b.a
    obtain ⟨u5, u6, u7, u8⟩ := facts2 HB3.out.b.r
    have HU50 := hull2 (w3.alloc (cs 0 0)) a (-(m0 - 1))
    simp only [World.size_alloc] at HU50
    have HU5 := hide HU50
    clear HU50
    go_wp2_with fail
    refine HU5.out.mono ?_
    rintro e w5 ⟨rfl, hb5⟩
    have HB5 := hide (HB3.out.later (bel (bel1 _ (.cells #[.int .i64 a, .int .i64 (-(m0 - 1))] 3)) (by simpa using hb5)))
    clear hb5 HB3 u1 u2 u5 u6 u7 u8
    obtain ⟨u1, u2, -, -⟩ := facts2 HB5.out.b.a
    obtain ⟨u5, u6, u7, u8⟩ := facts2 HB5.out.b.r
    obtain ⟨o1, o2, o3, o4⟩ := facts2 HB5.out.o
    have hl5 := HB5.out.lt
    have ka5 : w.heap.size ≠ w3.heap.size := by omega
    have kb5 : w.heap.size + 1 + 1 ≠ w3.heap.size := by omega
    have kc5 : w3.heap.size ≠ w.heap.size := by omega
    have kd5 : w3.heap.size ≠ w.heap.size + 1 + 1 := by omega
    obtain ⟨X, hX⟩ : ∃ z, max a (-(m0 - 1)) = z := ⟨_, rfl⟩
    obtain ⟨X', hX'⟩ : ∃ z, min a (-(m0 - 1)) = z := ⟨_, rfl⟩
    rw [hX, hX']
    have HX := hide hX
    clear hX hX'
    go_wp2_with fail
    have HB6 := hide (HB5.out.set0 X)
    obtain ⟨c0, c1, hB4⟩ := stored2 HB6.out.b.r HB6.out.b.bel (by omega) X 0
    exact bodyPost_ret (v := .tuple #[.agg #[.int .i64 X, .int .i64 0], .int .i64 0]) (by simp [results, Try.results46, go_sem, c0, c1]) rfl ⟨by rw [← HX.out], hB4⟩
  · rw [if_neg p, if_pos q]
    have e1 : decide (a < 0) = false := by simp; omega
    have e2 : decide (0 < b) = true := by simp; omega
    go_enter Try.func46, Try.ntmps46
    go_wp2_with fail
    refine (HH _).out.mono ?_
    rintro e w2 ⟨rfl, hb2⟩
    have HB2 := hide (HB.out.later hb2)
    clear hb2
    obtain ⟨u1, u2, -, -⟩ := facts2 HB2.out.a
    obtain ⟨u3, u4, -, -⟩ := facts2 HB2.out.b
    go_wp2_with fail
    refine (HU _).out.mono ?_
    rintro e w3 ⟨rfl, hb3⟩
    have HB3 := hide (⟨(HB2.out.later (bel (bel1 _ _) hb3)).later (bel1 _ (cs 0 0)), HasC.new w3 26 #[.int .i64 0, .int .i64 0], by have := (HB2.out.later (bel (bel1 _ _) hb3)).r.lt; omega⟩ : B4 w (w3.alloc (cs 0 0)) w3.heap.size a b c d 0 0)
    clear hb3 HB2 u1 u2 u3 u4
    obtain ⟨u1, u2, -, -⟩ := facts2 HB3.out.b.a
    obtain ⟨u5, u6, u7, u8⟩ := facts2 HB3.out.b.r
    have HU50 := hull2 (w3.alloc (cs 0 0)) b (m0 - 1)
    simp only [World.size_alloc] at HU50
    have HU5 := hide HU50
    clear HU50
    go_wp2_with fail
    refine HU5.out.mono ?_
    rintro e w5 ⟨rfl, hb5⟩
    have HB5 := hide (HB3.out.later (bel (bel1 _ (.cells #[.int .i64 b, .int .i64 (m0 - 1)] 3)) (by simpa using hb5)))
    clear hb5 HB3 u1 u2 u5 u6 u7 u8
    obtain ⟨u1, u2, -, -⟩ := facts2 HB5.out.b.a
    obtain ⟨u5, u6, u7, u8⟩ := facts2 HB5.out.b.r
    obtain ⟨o1, o2, o3, o4⟩ := facts2 HB5.out.o
    have hl5 := HB5.out.lt
    have ka5 : w.heap.size ≠ w3.heap.size := by omega
    have kb5 : w.heap.size + 1 + 1 ≠ w3.heap.size := by omega
    have kc5 : w3.heap.size ≠ w.heap.size := by omega
    have kd5 : w3.heap.size ≠ w.heap.size + 1 + 1 := by omega
    obtain ⟨Y, hY⟩ : ∃ z, min b (m0 - 1) = z := ⟨_, rfl⟩
    obtain ⟨Y', hY'⟩ : ∃ z, max b (m0 - 1) = z := ⟨_, rfl⟩
    rw [hY, hY']
    have HY := hide hY
    clear hY hY'
    go_wp2_with fail
    have HB6 := hide (HB5.out.set1 Y)
    obtain ⟨c0, c1, hB4⟩ := stored2 HB6.out.b.r HB6.out.b.bel (by omega) 0 Y
    exact bodyPost_ret (v := .tuple #[.agg #[.int .i64 0, .int .i64 Y], .int .i64 0]) (by simp [results, Try.results46, go_sem, c0, c1]) rfl ⟨by rw [← HY.out], hB4⟩
  · rw [if_neg p, if_neg q]
    have e1 : decide (a < 0) = false := by simp; omega
    have e2 : decide (0 < b) = false := by simp; omega
    go_enter Try.func46, Try.ntmps46
    go_wp2_with fail
    refine (HH _).out.mono ?_
    rintro e w2 ⟨rfl, hb2⟩
    have HB2 := hide (HB.out.later hb2)
    clear hb2
    obtain ⟨u1, u2, -, -⟩ := facts2 HB2.out.a
    obtain ⟨u3, u4, -, -⟩ := facts2 HB2.out.b
    go_wp2_with fail
    refine (HU _).out.mono ?_
    rintro e w3 ⟨rfl, hb3⟩
    have HB3 := hide (⟨(HB2.out.later (bel (bel1 _ _) hb3)).later (bel1 _ (cs 0 0)), HasC.new w3 26 #[.int .i64 0, .int .i64 0], by have := (HB2.out.later (bel (bel1 _ _) hb3)).r.lt; omega⟩ : B4 w (w3.alloc (cs 0 0)) w3.heap.size a b c d 0 0)
    clear hb3 HB2 u1 u2 u3 u4
    obtain ⟨u1, u2, -, -⟩ := facts2 HB3.out.b.a
    obtain ⟨u5, u6, u7, u8⟩ := facts2 HB3.out.b.r
    go_wp2_with fail
    obtain ⟨c0, c1, hB4⟩ := stored2 HB3.out.b.r HB3.out.b.bel (by omega) 0 0
    exact bodyPost_ret (v := .tuple #[.agg #[.int .i64 0, .int .i64 0], .int .i64 0]) (by simp [results, Try.results46, go_sem, c0, c1]) rfl ⟨rfl, hB4⟩

end Go.Proofs.Ytbandppkhknaoaa
