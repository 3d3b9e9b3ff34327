/-
  The document's own functions of layer 5: paired.
-/
import Derived.Test.YtbandppkhknaoaaQc2
namespace Go.Proofs.Ytbandppkhknaoaa
open Go.RowKit Go.IntWalk Go.Sort
set_option linter.unusedVariables false
attribute [local go_sem] fld0 fld1

theorem B3.put {w W : World} {a b c d : Int} (h : B3 w W a b c d 0 0) (x y : Int) : Below w.heap.size w ((W.setCell ⟨w.heap.size + 1 + 1, 0, none⟩ (.int .i64 x)).setCell ⟨w.heap.size + 1 + 1, 1, none⟩ (.int .i64 y)) := (stored2 h.r h.bel (by omega) x y).2.2

set_option maxRecDepth 100000 in
/-- One call, whose answer is handed on. -/
theorem qpair_call (op : Int) (fn : FuncId) (a b c d : Int) (Z : Int × Int) (w : World) (hop : (fn = 41 ∧ op = 10) ∨ (fn = 42 ∧ (op = 15 ∨ op = 16 ∨ op = 17)) ∨ (fn = 63 ∧ (op = 18 ∨ op = 19 ∨ op = 20 ∨ op = 21 ∨ op = 22 ∨ op = 23)))
    (H : ∀ W, Calls Try.prog fn #[.int .i64 op, .agg #[.int .i64 a, .int .i64 b], .agg #[.int .i64 c, .int .i64 d]] W fun e w' => e = .returned (.agg #[.int .i64 Z.1, .int .i64 Z.2]) ∧ Below W.heap.size W w') :
    Calls Try.prog 46 #[.int .i64 op, .agg #[.int .i64 a, .int .i64 b], .agg #[.int .i64 c, .int .i64 d]] w fun e w' => e = .returned (spV (Z, 0)) ∧ Below w.heap.size w w' := by
  have HB := hide (B3.start w a b c d 0 0)
  have HC := fun W => hide (H W)
  clear H
  obtain ⟨x, y⟩ := Z
  rcases hop with ⟨rfl, rfl⟩ | ⟨rfl, rfl | rfl | rfl⟩ | ⟨rfl, rfl | rfl | rfl | rfl | rfl | rfl⟩ <;>
  · go_enter Try.func46, Try.ntmps46
    go_wp2_with fail
    refine (HC _).out.mono ?_
    rintro e w2 ⟨rfl, hb2⟩
    have HB2 := hide (HB.out.later hb2)
    clear hb2
    obtain ⟨u5, u6, u7, u8⟩ := facts2 HB2.out.r
    go_wp2_with fail
    obtain ⟨c0, c1, hB4⟩ := stored2 HB2.out.r HB2.out.bel (by omega) x y
    exact bodyPost_ret (v := .tuple #[.agg #[.int .i64 x, .int .i64 y], .int .i64 0]) (by simp [results, Try.results46, go_sem, c0, c1]) rfl ⟨rfl, hB4⟩

set_option maxRecDepth 100000 in
theorem qpair_8 (a b c d : Int) (w : World) (ha : W32 a) (hb : W32 b) (hc : W32 c) (hd : W32 d) : Calls Try.prog 46 #[.int .i64 8, .agg #[.int .i64 a, .int .i64 b], .agg #[.int .i64 c, .int .i64 d]] w fun e w' => e = .returned (spV ((a + c, b + d), 0)) ∧ Below w.heap.size w w' := by
  go_enter Try.func46, Try.ntmps46
  go_wp2
  exact bodyPost_ret (v := .tuple #[.agg #[.int .i64 (a + c), .int .i64 (b + d)], .int .i64 0]) (by simp [results, Try.results46, go_sem]) rfl ⟨rfl, bel3 _ _ _ _ _⟩
set_option maxRecDepth 100000 in
theorem qpair_9 (a b c d : Int) (w : World) (ha : W32 a) (hb : W32 b) (hc : W32 c) (hd : W32 d) : Calls Try.prog 46 #[.int .i64 9, .agg #[.int .i64 a, .int .i64 b], .agg #[.int .i64 c, .int .i64 d]] w fun e w' => e = .returned (spV ((a - d, b - c), 0)) ∧ Below w.heap.size w w' := by
  go_enter Try.func46, Try.ntmps46
  go_wp2
  exact bodyPost_ret (v := .tuple #[.agg #[.int .i64 (a - d), .int .i64 (b - c)], .int .i64 0]) (by simp [results, Try.results46, go_sem]) rfl ⟨rfl, bel3 _ _ _ _ _⟩

set_option maxRecDepth 100000 in
/-- OpDiv and OpMod by a span that has 0. -/
theorem qpair_zero (op a b c d : Int) (w : World) (ho : op = 11 ∨ op = 12) (h0 : hasB c d 0 = true) : Calls Try.prog 46 #[.int .i64 op, .agg #[.int .i64 a, .int .i64 b], .agg #[.int .i64 c, .int .i64 d]] w fun e w' => e = .returned (spV ((0, 0), 12)) ∧ Below w.heap.size w w' := by
  have HB := hide (B3.start w a b c d 0 0)
  have HH := fun w => hide (rhas_any c d 0 w)
  rw [h0] at HH
  rcases ho with rfl | rfl <;>
  · go_enter Try.func46, Try.ntmps46
    go_wp2_with fail
    refine (HH _).out.mono ?_
    rintro e w2 ⟨rfl, hb2⟩
    have HB2 := hide (HB.out.later hb2)
    clear hb2
    obtain ⟨u5, u6, u7, u8⟩ := facts2 HB2.out.r
    go_wp2_with fail
    obtain ⟨c0, c1, hB4⟩ := stored2 HB2.out.r HB2.out.bel (by omega) 0 0
    exact bodyPost_ret (v := .tuple #[.agg #[.int .i64 0, .int .i64 0], .int .i64 12]) (by simp [results, Try.results46, go_sem, c0, c1]) rfl ⟨rfl, hB4⟩

set_option maxRecDepth 100000 in
theorem qpair_11 (a b c d : Int) (Z : Int × Int) (w : World) (h0 : hasB c d 0 = false)
    (H : ∀ W, Calls Try.prog 41 #[.int .i64 11, .agg #[.int .i64 a, .int .i64 b], .agg #[.int .i64 c, .int .i64 d]] W fun e w' => e = .returned (.agg #[.int .i64 Z.1, .int .i64 Z.2]) ∧ Below W.heap.size W w') :
    Calls Try.prog 46 #[.int .i64 11, .agg #[.int .i64 a, .int .i64 b], .agg #[.int .i64 c, .int .i64 d]] w fun e w' => e = .returned (spV (Z, 0)) ∧ Below w.heap.size w w' := by
  have HB := hide (B3.start w a b c d 0 0)
  have HC := fun W => hide (H W)
  have HH := fun w => hide (rhas_any c d 0 w)
  rw [h0] at HH
  clear H
  obtain ⟨x, y⟩ := Z
  go_enter Try.func46, Try.ntmps46
  go_wp2_with fail
  refine (HH _).out.mono ?_
  rintro e w2 ⟨rfl, hb2⟩
  have HB2 := hide (HB.out.later hb2)
  clear hb2
  obtain ⟨u1, u2, -, -⟩ := facts2 HB2.out.a
  obtain ⟨u3, u4, -, -⟩ := facts2 HB2.out.b
  go_wp2_with fail
  refine (HC _).out.mono ?_
  rintro e w3 ⟨rfl, hb3⟩
  have HB3 := hide (HB2.out.later hb3)
  clear hb3
  obtain ⟨u5, u6, u7, u8⟩ := facts2 HB3.out.r
  go_wp2_with fail
  obtain ⟨c0, c1, hB4⟩ := stored2 HB3.out.r HB3.out.bel (by omega) x y
  exact bodyPost_ret (v := .tuple #[.agg #[.int .i64 x, .int .i64 y], .int .i64 0]) (by simp [results, Try.results46, go_sem, c0, c1]) rfl ⟨rfl, hB4⟩

set_option maxRecDepth 100000 in
theorem qpair_sh_bad (op a b c d : Int) (w : World) (ho : op = 13 ∨ op = 14) (h0 : c < 0 ∨ 31 < d) : Calls Try.prog 46 #[.int .i64 op, .agg #[.int .i64 a, .int .i64 b], .agg #[.int .i64 c, .int .i64 d]] w fun e w' => e = .returned (spV ((0, 0), 13)) ∧ Below w.heap.size w w' := by
  rcases (show c < 0 ∨ (0 ≤ c ∧ 31 < d) by omega) with g | g
  · have e1 : decide (c < 0) = true := by simp; omega
    rcases ho with rfl | rfl <;>
    · go_enter Try.func46, Try.ntmps46
      go_wp2
      exact bodyPost_ret (v := .tuple #[.agg #[.int .i64 0, .int .i64 0], .int .i64 13]) (by simp [results, Try.results46, go_sem]) rfl ⟨rfl, bel3 _ _ _ _ _⟩
  · have e1 : decide (c < 0) = false := by simp; omega
    have e2 : decide (31 < d) = true := by simp; omega
    rcases ho with rfl | rfl <;>
    · go_enter Try.func46, Try.ntmps46
      go_wp2
      exact bodyPost_ret (v := .tuple #[.agg #[.int .i64 0, .int .i64 0], .int .i64 13]) (by simp [results, Try.results46, go_sem]) rfl ⟨rfl, bel3 _ _ _ _ _⟩

set_option maxRecDepth 100000 in
theorem qpair_sh (op a b c d : Int) (Z : Int × Int) (w : World) (ho : op = 13 ∨ op = 14) (h0 : 0 ≤ c ∧ d ≤ 31)
    (H : ∀ W, Calls Try.prog 41 #[.int .i64 op, .agg #[.int .i64 a, .int .i64 b], .agg #[.int .i64 c, .int .i64 d]] W fun e w' => e = .returned (.agg #[.int .i64 Z.1, .int .i64 Z.2]) ∧ Below W.heap.size W w') :
    Calls Try.prog 46 #[.int .i64 op, .agg #[.int .i64 a, .int .i64 b], .agg #[.int .i64 c, .int .i64 d]] w fun e w' => e = .returned (spV (Z, 0)) ∧ Below w.heap.size w w' := by
  have HB := hide (B3.start w a b c d 0 0)
  have HC := fun W => hide (H W)
  clear H
  obtain ⟨x, y⟩ := Z
  have e1 : decide (c < 0) = false := by simp; omega
  have e2 : decide (31 < d) = false := by simp; omega
  rcases ho with rfl | rfl <;>
  · go_enter Try.func46, Try.ntmps46
    go_wp2_with fail
    refine (HC _).out.mono ?_
    rintro e w3 ⟨rfl, hb3⟩
    have HB3 := hide (HB.out.later hb3)
    clear hb3
    obtain ⟨u5, u6, u7, u8⟩ := facts2 HB3.out.r
    go_wp2_with fail
    obtain ⟨c0, c1, hB4⟩ := stored2 HB3.out.r HB3.out.bel (by omega) x y
    exact bodyPost_ret (v := .tuple #[.agg #[.int .i64 x, .int .i64 y], .int .i64 0]) (by simp [results, Try.results46, go_sem, c0, c1]) rfl ⟨rfl, hB4⟩

end Go.Proofs.Ytbandppkhknaoaa
