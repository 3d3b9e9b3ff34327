/-
  FoldThrough's walk.
-/
import Derived.Test.YtjfcdfjegjplhaaMFt
import Derived.Deep.CutRange
namespace Go.Proofs.Fld
open Go.RowKit Go.IntWalk Ytjfcdfjegjplhaa.Knd
open Cde (In i0 ia kd cd Ins at6 six_of four_of has_new1 i6 zA has_z below_drew)
set_option linter.unusedVariables false

set_option maxRecDepth 100000 in
set_option maxHeartbeats 16000000 in
theorem fthr_walk (n : In) (t0 t1 t2 t3 : Int) {W : World} :
    Calls Try.prog 3 #[.agg (ia n), .agg #[.int .i64 t0, .int .i64 t1, .int .i64 t2, .int .i64 t3]] W fun e w' => e = .returned (.bool true) ∧ Below W.heap.size W w' := by
  have HA := hide fun V => fawake_any V
  obtain ⟨p1, p2⟩ := and3 n.a
  obtain ⟨p3, p4⟩ := and3 n.b
  obtain ⟨p5, p6⟩ := and3 n.c
  have hOk : ThOk ⟨n.op, bits .and .i64 n.a 3, bits .and .i64 n.b 3, bits .and .i64 n.c 3, n.k, n.s⟩ 4 := ⟨fun _ => ⟨p1, by dsimp only; omega⟩, fun _ => ⟨p3, by dsimp only; omega⟩, fun _ => ⟨p5, by dsimp only; omega⟩⟩
  have HOk := hide hOk
  obtain ⟨op, xa, xb, xc, xk, xs⟩ := n
  dsimp only at *
  clear p1 p2 p3 p4 p5 p6 hOk
  go_enter Try.func3, Try.ntmps3
  go_wp2_with fail
  have h1 := ((HasC.new W 23 (ia ⟨op, xa, xb, xc, xk, xs⟩)).alloc (.cells #[.int .i64 t0, .int .i64 t1, .int .i64 t2, .int .i64 t3] 24)).alloc (.cells (ia ⟨op, xa, xb, xc, xk, xs⟩) 23)
  have h2 := (has_new1 W (.cells (ia ⟨op, xa, xb, xc, xk, xs⟩) 23) 24 #[.int .i64 t0, .int .i64 t1, .int .i64 t2, .int .i64 t3]).alloc (.cells (ia ⟨op, xa, xb, xc, xk, xs⟩) 23)
  have h3 := has_new1 (W.alloc (.cells (ia ⟨op, xa, xb, xc, xk, xs⟩) 23)) (.cells #[.int .i64 t0, .int .i64 t1, .int .i64 t2, .int .i64 t3] 24) 23 (ia ⟨op, xa, xb, xc, xk, xs⟩)
  rw [World.size_alloc] at h3
  have HB0 := hide (bel (bel (bel1 W (.cells (ia ⟨op, xa, xb, xc, xk, xs⟩) 23)) (bel1 _ (.cells #[.int .i64 t0, .int .i64 t1, .int .i64 t2, .int .i64 t3] 24))) (bel1 _ (.cells (ia ⟨op, xa, xb, xc, xk, xs⟩) 23)))
  obtain ⟨V, hV⟩ : ∃ V, ((W.alloc (.cells (ia ⟨op, xa, xb, xc, xk, xs⟩) 23)).alloc (.cells #[.int .i64 t0, .int .i64 t1, .int .i64 t2, .int .i64 t3] 24)).alloc (.cells (ia ⟨op, xa, xb, xc, xk, xs⟩) 23) = V := ⟨_, rfl⟩
  rw [hV] at h1 h2 h3 HB0 ⊢
  have HN := hide h1
  have HT := hide h2
  have HK := hide h3
  clear h1 h2 h3 hV
  obtain ⟨e0, e1, e2, e3, e4, e5⟩ := six_of HN.out
  obtain ⟨k0, k1, k2, k3, k4, k5⟩ := six_of HK.out
  obtain ⟨r0, r1, r2, r3, r4, r5⟩ := six_fr HK.out
  dsimp only at e0 e1 e2 e3 e4 e5 k0 k1 k2 k3 k4 k5
  have hlt := HK.out.lt
  have hn1 := HN.out.other (p := ⟨W.heap.size + 1 + 1, 1, none⟩) (by simp; omega) (.int .i64 (bits .and .i64 xa 3))
  have hn2 := hn1.other (p := ⟨W.heap.size + 1 + 1, 2, none⟩) (by simp; omega) (.int .i64 (bits .and .i64 xb 3))
  have hn3 := hn2.other (p := ⟨W.heap.size + 1 + 1, 3, none⟩) (by simp; omega) (.int .i64 (bits .and .i64 xc 3))
  obtain ⟨-, a1, a2, a3, -, -⟩ := six_of (hn1.below (below_drew _))
  obtain ⟨-, b1, b2, b3, -, -⟩ := six_of (hn2.below (below_drew _))
  obtain ⟨-, c1, c2, c3, -, -⟩ := six_of (hn3.below (below_drew _))
  dsimp only at a1 a2 a3 b1 b2 b3 c1 c2 c3
  go_region_held3 (fun w' => w'.cell? ⟨W.heap.size, 1, none⟩ = some (.int .i64 xa) ∧ w'.cell? ⟨W.heap.size, 2, none⟩ = some (.int .i64 xb) ∧ w'.cell? ⟨W.heap.size, 3, none⟩ = some (.int .i64 xc))
    (first | exact ⟨e1, e2, e3⟩ | exact ⟨a1, a2, a3⟩ | exact ⟨b1, b2, b3⟩ | exact ⟨c1, c2, c3⟩ | go_keep)
    (fail)
  all_goals
    have hk1 := ((HK.out.set 1 (.int .i64 (bits .and .i64 xa 3))).set 2 (.int .i64 (bits .and .i64 xb 3))).set 3 (.int .i64 (bits .and .i64 xc 3))
    have ht1 := ((HT.out.other (p := ⟨W.heap.size + 1 + 1, 1, none⟩) (by simp) (.int .i64 (bits .and .i64 xa 3))).other (p := ⟨W.heap.size + 1 + 1, 2, none⟩) (by simp) (.int .i64 (bits .and .i64 xb 3))).other (p := ⟨W.heap.size + 1 + 1, 3, none⟩) (by simp) (.int .i64 (bits .and .i64 xc 3))
    have hb1 := ((HB0.out.setCell (p := ⟨W.heap.size + 1 + 1, 1, none⟩) (by simp; omega) (.int .i64 (bits .and .i64 xa 3))).setCell (p := ⟨W.heap.size + 1 + 1, 2, none⟩) (by simp; omega) (.int .i64 (bits .and .i64 xb 3))).setCell (p := ⟨W.heap.size + 1 + 1, 3, none⟩) (by simp; omega) (.int .i64 (bits .and .i64 xc 3))
    have HK2 : Hid (HasC _ (W.heap.size + 1 + 1) 23 (ia ⟨op, bits .and .i64 xa 3, bits .and .i64 xb 3, bits .and .i64 xc 3, xk, xs⟩)) := hide (hk1.below (below_drew _))
    have HT2 := hide (ht1.below (below_drew _))
    have HB2 := hide hb1.drew
    obtain ⟨V2, hV2⟩ : ∃ V2, (((V.setCell ⟨W.heap.size + 1 + 1, 1, none⟩ (.int .i64 (bits .and .i64 xa 3))).setCell ⟨W.heap.size + 1 + 1, 2, none⟩ (.int .i64 (bits .and .i64 xb 3))).setCell ⟨W.heap.size + 1 + 1, 3, none⟩ (.int .i64 (bits .and .i64 xc 3))).drew = V2 := ⟨_, rfl⟩
    rw [hV2] at HK2 HT2 HB2 ⊢
    clear hk1 ht1 hb1 hV2 hn1 hn2 hn3 a1 a2 a3 b1 b2 b3 c1 c2 c3 e0 e1 e2 e3 e4 e5 k0 k1 k2 k3 k4 k5 r0 r1 r2 r3 r4 r5 HN HT HK HB0 hlt
    generalize bits .and .i64 xa 3 = ya at *
    generalize bits .and .i64 xb 3 = yb at *
    generalize bits .and .i64 xc 3 = yc at *
    have hl0 : HasC (V2.alloc (.cells #[.int .i64 t0, .int .i64 t1, .int .i64 t2, .int .i64 t3] 3)) V2.heap.size 3 (zA [t0, t1, t2, t3]) := HasC.new _ _ _
    have HL0 := hide hl0
    have hb3 := bel1 V2 (.cells #[.int .i64 t0, .int .i64 t1, .int .i64 t2, .int .i64 t3] 3)
    have HK3 := hide (HK2.out.below hb3)
    have HT3 := hide (HT2.out.below hb3)
    have HB3 := hide (bel HB2.out hb3)
    have HTh := hide (fthrough_any ⟨op, ya, yb, yc, xk, xs⟩ (has_z hl0 (by show 4 ≤ 1024; decide)))
    have HGt := hide fun V (h : Ints V (some ⟨V2.heap.size, 0, none⟩) 4 4 [t0, t1, t2, t3]) => gthrough_any ⟨op, ya, yb, yc, xk, xs⟩ h HOk.out
    obtain ⟨q, hq⟩ : ∃ q, thI ⟨op, ya, yb, yc, xk, xs⟩ [t0, t1, t2, t3] = q := ⟨_, rfl⟩
    rw [hq] at HTh HGt
    simp only [List.length_cons, List.length_nil] at HTh
    obtain ⟨x0, x1, x2, x3⟩ := four_of HT2.out
    obtain ⟨e0, e1, e2, e3, e4, e5⟩ := six_of HK2.out
    have z0 := HT2.out.lt
    have z1 := HK2.out.lt
    clear hl0 hb3 hq HK2 HT2 HB2
    go_wp2_with fail
    refine HTh.out.mono ?_
    rintro e V3 ⟨rfl, hb⟩
    have hb4 := bel1 V3 (.cells (ia q) 23)
    have HK4 := hide ((HK3.out.below hb).below hb4)
    have HT4 := hide ((HT3.out.below hb).below hb4)
    have HL4 := hide ((HL0.out.below hb).below hb4)
    have HB4 := hide (bel (bel HB3.out hb) hb4)
    have HQ4 := hide (HasC.new V3 23 (ia q))
    clear hb hb4 HTh HK3 HT3 HL0 HB3 x0 x1 x2 x3 e0 e1 e2 e3 e4 e5 z0 z1
    generalize V2.heap.size = gl at *
    go_upto_region 5 with fail
    generalize V3.heap.size = gq at *
    obtain ⟨V4, hV4⟩ : ∃ V4, V3.alloc (.cells (ia q) 23) = V4 := ⟨_, rfl⟩
    rw [hV4] at HK4 HT4 HL4 HB4 HQ4 ⊢
    clear hV4
    obtain ⟨x0, x1, x2, x3⟩ := four_of HT4.out
    obtain ⟨e0, e1, e2, e3, e4, e5⟩ := six_of HK4.out
    obtain ⟨f0, f1, f2, f3, f4, f5⟩ := six_of HQ4.out
    obtain ⟨l0, l1, l2, l3⟩ : V4.cell? ⟨gl, 0, none⟩ = some (.int .i64 t0) ∧ V4.cell? ⟨gl, 1, none⟩ = some (.int .i64 t1) ∧ V4.cell? ⟨gl, 2, none⟩ = some (.int .i64 t2) ∧ V4.cell? ⟨gl, 3, none⟩ = some (.int .i64 t3) := ⟨HL4.out.cell 0 rfl, HL4.out.cell 1 rfl, HL4.out.cell 2 rfl, HL4.out.cell 3 rfl⟩
    have X0 := cell_regrown x0
    have X1 := cell_regrown x1
    have X2 := cell_regrown x2
    have X3 := cell_regrown x3
    have E0 := cell_regrown e0
    have E1 := cell_regrown e1
    have E2 := cell_regrown e2
    have E3 := cell_regrown e3
    have E4 := cell_regrown e4
    have E5 := cell_regrown e5
    have F0 := cell_regrown f0
    have F1 := cell_regrown f1
    have F2 := cell_regrown f2
    have F3 := cell_regrown f3
    have F4 := cell_regrown f4
    have F5 := cell_regrown f5
    have L0 := cell_regrown l0
    have L1 := cell_regrown l1
    have L2 := cell_regrown l2
    have L3 := cell_regrown l3
    refine wp_region_quiet_below mixedF (by kernel_rfl) ?_
    repeat (go_big_quiet_step (fail))
    go_big_quiet_step ((go_at_call 8; exact Calls.regrown_of (HA.out _)))
    repeat (go_big_quiet_step (fail))
    go_big_quiet_step ((go_at_call 9; exact Calls.regrown_of (HGt.out _ ((has_z HL4.out (by show 4 ≤ 1024; decide)).later (below_regrown _ _ _)))))
    repeat (go_big_quiet_step (fail))
    refine wpQuiet_nil ?_
    intro V5 hw'
    obtain ⟨⟨dq, osq⟩, hw''⟩ := hw'
    have hb := below_regrown V4 dq osq
    simp only at hw''
    rw [← hw''] at hb
    have HB5 := hide (bel HB4.out hb)
    clear hw'' hb
    go_wp2_with fail
    go_ret
    exact ⟨rfl, HB5.out⟩

end Go.Proofs.Fld
