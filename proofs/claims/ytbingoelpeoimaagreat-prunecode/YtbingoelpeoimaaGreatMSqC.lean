/-
  The document's own functions of layer 5: hull and wide.
-/
import Derived.Test.YtbingoelpeoimaaGreatMSpH
import Derived.Test.YtbingoelpeoimaaGreatMSqB
namespace Go.Proofs.YtbingoelpeoimaaGreat.Spn
open Go.RowKit Go.IntWalk Go.Sort
set_option linter.unusedVariables false

def hlo (xs : List Int) : Int := xs.foldl min (xs.getD 0 0)
def hhi (xs : List Int) : Int := xs.foldl max (xs.getD 0 0)

theorem fold_succ {f : Int → Int → Int} {xs : List Int} {z x : Int} {j : Nat} (hj : j < xs.length) (hx : xs.getD j 0 = x) : (xs.take (j + 1)).foldl f z = f ((xs.take j).foldl f z) x := by
  have e : xs[j] = x := by simpa [List.getD, hj] using hx
  rw [List.take_succ_eq_append_getElem hj, e, List.foldl_append]
  rfl

/-- The memory of 'hull'. -/
structure Hu (w W : World) (x y : Int) : Prop where
  r : HasC W w.heap.size 64 #[.int .i64 0, .int .i64 0]
  q : HasC W (w.heap.size + 1) 64 #[.int .i64 x, .int .i64 y]
  bel : Below w.heap.size w W
theorem Hu.drew {w W : World} {x y : Int} (h : Hu w W x y) (n : Nat) : Hu w (W.drewN n) x y := ⟨h.r, h.q, bdrew h.bel n⟩
theorem Hu.lo {w W : World} {x y : Int} (h : Hu w W x y) (x' : Int) : Hu w (W.setCell ⟨w.heap.size + 1, 0, none⟩ (.int .i64 x')) x' y :=
  ⟨h.r.other (p := ⟨w.heap.size + 1, 0, none⟩) (by simp) _, h.q.set 0 _, h.bel.setCell (p := ⟨w.heap.size + 1, 0, none⟩) (by simp) _⟩
theorem Hu.hi {w W : World} {x y : Int} (h : Hu w W x y) (y' : Int) : Hu w (W.setCell ⟨w.heap.size + 1, 1, none⟩ (.int .i64 y')) x y' :=
  ⟨h.r.other (p := ⟨w.heap.size + 1, 1, none⟩) (by simp) _, h.q.set 1 _, h.bel.setCell (p := ⟨w.heap.size + 1, 1, none⟩) (by simp) _⟩

set_option maxRecDepth 100000 in
set_option maxHeartbeats 4000000 in
theorem hull_any (a : Option Addr) (n cap : Nat) (xs : List Int) (w : World) (h : Ints w a n cap xs) (hn : n ≠ 0) (hn4 : n ≤ 4) :
    Calls Tryz.prog 61 #[.slice a n cap] w fun e w' => e = .returned (.agg #[.int .i64 (hlo xs), .int .i64 (hhi xs)]) ∧ Below w.heap.size w w' := by
  have hle := h.le
  have hl := h.len
  obtain ⟨bb, off, rfl, hbb, hcell⟩ := h.at hn
  have HCL := hide hcell
  have HL := hide hl
  have c0 := hcell 0 (by omega)
  rw [Nat.add_zero] at c0
  obtain ⟨x0, hx0⟩ : ∃ x, xs.getD 0 0 = x := ⟨_, rfl⟩
  rw [hx0] at c0
  have HX0 := hide hx0
  have d0 := (cell_old (o := cs 0 0) (i := off) hbb).trans c0
  clear hcell hl hx0 h c0
  have hn0 : (0 : Int) < (n : Int) := by omega
  go_enter Tryz.func61, Tryz.ntmps61
  go_wp2_with fail
  go_region
  have hU : Hu w ((w.alloc (cs 0 0)).alloc (cs x0 x0)).drew x0 x0 := by
    have h1 := (HasC.new w 64 #[.int .i64 0, .int .i64 0]).alloc (cs x0 x0)
    have h2 := HasC.new (w.alloc (cs 0 0)) 64 #[.int .i64 x0, .int .i64 x0]
    simp only [World.size_alloc] at h2
    exact ⟨h1, h2, (((Below.refl _ _).alloc (Nat.le_refl _) _).alloc (by simp) _).trans ⟨rfl, rfl, rfl, Nat.le_refl _, fun _ _ => rfl⟩⟩
  have HU := hide hU
  clear hU d0
  go_wp2_with fail
  go_loopw [4] (fun i wr => ∃ j : Nat, j ≤ n ∧ i = .int .i64 j ∧ Hu w wr ((xs.take j).foldl min x0) ((xs.take j).foldl max x0)) (fun i _ => n - (intOf i).toNat)
  case atStart => exact ⟨0, by omega, rfl, HU.out⟩
  case round =>
    rename World => wi
    obtain ⟨j, hj, rfl, hu⟩ := hrel
    have HUJ := hide hu
    clear hu
    by_cases hlt : j < n
    · have hd1 : decide ((j : Int) < (n : Int)) = true := by simp; omega
      have hj0 : (0 : Int) ≤ (j : Int) := by omega
      have hj1 : (j : Int) < (n : Int) := by omega
      obtain ⟨x, hx⟩ : ∃ x, xs.getD j 0 = x := ⟨_, rfl⟩
      have g1 := (HUJ.out.bel.cell (p := ⟨bb, off + j, none⟩) hbb).trans (HCL.out j hlt)
      rw [hx] at g1
      have f1 := fold_succ (f := min) (z := x0) (by rw [HL.out]; exact hlt) hx
      have f2 := fold_succ (f := max) (z := x0) (by rw [HL.out]; exact hlt) hx
      obtain ⟨p, hp⟩ : ∃ p, (xs.take j).foldl min x0 = p := ⟨_, rfl⟩
      obtain ⟨q, hq⟩ : ∃ q, (xs.take j).foldl max x0 = q := ⟨_, rfl⟩
      rw [hp] at f1
      rw [hq] at f2
      rw [hp, hq] at HUJ
      have HXX := hide hx
      have F1 := hide f1
      have F2 := hide f2
      clear f1 f2 hp hq hx
      obtain ⟨r1, r2, r3, r4⟩ := facts2 HUJ.out.q
      have hbw : bb ≠ w.heap.size + 1 := by omega
      by_cases hxp : x < p <;> by_cases hxq : q < x
      · have e1 : decide (x < p) = true := by simp [hxp]
        have e2 : decide (q < x) = true := by simp [hxq]
        go_wp2_with fail
        go_quiet (fail)
        go_wp2_with fail
        have HV := hide (HUJ.out.drew nq)
        have HV1 := hide (HV.out.lo x)
        obtain ⟨W1, hW1⟩ : ∃ W1, (wi.drewN nq).setCell ⟨w.heap.size + 1, 0, none⟩ (.int .i64 x) = W1 := ⟨_, rfl⟩
        rw [hW1] at HV1 ⊢
        clear hW1
        clear g1 r1 r2 r3 r4
        have g1 := (HV1.out.bel.cell (p := ⟨bb, off + j, none⟩) hbb).trans (HCL.out j hlt)
        rw [HXX.out] at g1
        obtain ⟨r1, r2, r3, r4⟩ := facts2 HV1.out.q
        go_quiet (fail)
        go_wp2_with fail
        go_roundw
        case rel =>
          refine ⟨j + 1, by omega, by go_num, ?_⟩
          rw [F1.out, F2.out, show min p x = x by omega, show max q x = x by omega]
          exact (HV1.out.drew _).hi x
        case measure => simp [intOf]; omega
      · have e1 : decide (x < p) = true := by simp [hxp]
        have e2 : decide (q < x) = false := by simp; omega
        go_wp2_with fail
        go_quiet (fail)
        go_wp2_with fail
        have HV := hide (HUJ.out.drew nq)
        have HV1 := hide (HV.out.lo x)
        obtain ⟨W1, hW1⟩ : ∃ W1, (wi.drewN nq).setCell ⟨w.heap.size + 1, 0, none⟩ (.int .i64 x) = W1 := ⟨_, rfl⟩
        rw [hW1] at HV1 ⊢
        clear hW1
        clear g1 r1 r2 r3 r4
        have g1 := (HV1.out.bel.cell (p := ⟨bb, off + j, none⟩) hbb).trans (HCL.out j hlt)
        rw [HXX.out] at g1
        obtain ⟨r1, r2, r3, r4⟩ := facts2 HV1.out.q
        go_quiet (fail)
        go_wp2_with fail
        go_roundw
        case rel =>
          refine ⟨j + 1, by omega, by go_num, ?_⟩
          rw [F1.out, F2.out, show min p x = x by omega, show max q x = q by omega]
          exact HV1.out.drew _
        case measure => simp [intOf]; omega
      · have e1 : decide (x < p) = false := by simp; omega
        have e2 : decide (q < x) = true := by simp [hxq]
        go_wp2_with fail
        go_quiet (fail)
        go_wp2_with fail
        have HV := hide (HUJ.out.drew nq)
        have HV1 := hide HV.out
        obtain ⟨W1, hW1⟩ : ∃ W1, wi.drewN nq = W1 := ⟨_, rfl⟩
        rw [hW1] at HV1 ⊢
        clear hW1
        clear g1 r1 r2 r3 r4
        have g1 := (HV1.out.bel.cell (p := ⟨bb, off + j, none⟩) hbb).trans (HCL.out j hlt)
        rw [HXX.out] at g1
        obtain ⟨r1, r2, r3, r4⟩ := facts2 HV1.out.q
        go_quiet (fail)
        go_wp2_with fail
        go_roundw
        case rel =>
          refine ⟨j + 1, by omega, by go_num, ?_⟩
          rw [F1.out, F2.out, show min p x = p by omega, show max q x = x by omega]
          exact (HV1.out.drew _).hi x
        case measure => simp [intOf]; omega
      · have e1 : decide (x < p) = false := by simp; omega
        have e2 : decide (q < x) = false := by simp; omega
        go_wp2_with fail
        go_quiet (fail)
        go_wp2_with fail
        have HV := hide (HUJ.out.drew nq)
        have HV1 := hide HV.out
        obtain ⟨W1, hW1⟩ : ∃ W1, wi.drewN nq = W1 := ⟨_, rfl⟩
        rw [hW1] at HV1 ⊢
        clear hW1
        clear g1 r1 r2 r3 r4
        have g1 := (HV1.out.bel.cell (p := ⟨bb, off + j, none⟩) hbb).trans (HCL.out j hlt)
        rw [HXX.out] at g1
        obtain ⟨r1, r2, r3, r4⟩ := facts2 HV1.out.q
        go_quiet (fail)
        go_wp2_with fail
        go_roundw
        case rel =>
          refine ⟨j + 1, by omega, by go_num, ?_⟩
          rw [F1.out, F2.out, show min p x = p by omega, show max q x = q by omega]
          exact HV1.out.drew _
        case measure => simp [intOf]; omega
    · obtain rfl : j = n := by omega
      have hd1 : decide ((j : Int) < (j : Int)) = false := by simp
      have hu := HUJ.out
      rw [List.take_of_length_le (by rw [HL.out]; omega)] at hu
      have e1 : xs.foldl min x0 = hlo xs := by unfold hlo; rw [HX0.out]
      have e2 : xs.foldl max x0 = hhi xs := by unfold hhi; rw [HX0.out]
      rw [e1, e2] at hu
      obtain ⟨p, hp⟩ : ∃ p, hlo xs = p := ⟨_, rfl⟩
      obtain ⟨q, hq⟩ : ∃ q, hhi xs = q := ⟨_, rfl⟩
      rw [hp, hq] at hu
      have HP := hide hp
      have HQ := hide hq
      have HU2 := hide hu
      clear hu hp hq e1 e2
      obtain ⟨r1, r2, -, -⟩ := facts2 HU2.out.q
      obtain ⟨s1, s2, s3, s4⟩ := facts2 HU2.out.r
      go_wp2_with fail
      obtain ⟨t0, t1, hB⟩ := stored2 HU2.out.r HU2.out.bel (Nat.le_refl _) p q
      exact bodyPost_ret (v := .agg #[.int .i64 p, .int .i64 q]) (by simp [results, Tryz.results61, go_sem, t0, t1]) rfl ⟨by rw [HP.out, HQ.out], hB⟩

theorem wide_10 (x y : Int) (w : World) (hx : W32 x) (hy : W32 y) : Calls Tryz.prog 79 #[.int .i64 10, .int .i64 x, .int .i64 y] w fun e w' => e = .returned (.int .i64 (x * y)) ∧ w' = w := by
  have hb := mul_wd (a := x) (b := y) hx (by omega)
  go_enter Tryz.func79, Tryz.ntmps79
  go_wp2
  go_ret
  exact ⟨rfl, rfl⟩

theorem wide_11 (x y : Int) (w : World) (hx : W32 x) (hy : W32 y) (h0 : y ≠ 0) : Calls Tryz.prog 79 #[.int .i64 11, .int .i64 x, .int .i64 y] w fun e w' => e = .returned (.int .i64 (x.tdiv y)) ∧ w' = w := by
  have bd := tdiv_bd x y hx
  rcases (show x < 0 ∨ 0 ≤ x by omega) with ga | ga <;> rcases (show y < 0 ∨ 0 ≤ y by omega) with gb | gb
  · have e : x.tdiv y = -x / -y := by rw [← Int.neg_tdiv_neg, Int.tdiv_eq_ediv_of_nonneg (by omega)]
    rw [e] at bd ⊢
    clear e
    have da : decide (x < 0) = true := by simp; omega
    have db : decide (y < 0) = true := by simp; omega
    obtain ⟨A, hA⟩ : ∃ A, -x = A := ⟨_, rfl⟩
    obtain ⟨B, hB⟩ : ∃ B, -y = B := ⟨_, rfl⟩
    have hA' : 0 ≤ A ∧ A ≤ 2147483648 := by omega
    have hB' : 1 ≤ B := by omega
    rw [hA, hB] at bd ⊢
    go_enter Tryz.func79, Tryz.ntmps79
    go_wp2
    go_ret
    exact ⟨rfl, rfl⟩
  · have e : x.tdiv y = -(-x / y) := by rw [← Int.tdiv_eq_ediv_of_nonneg (by omega), Int.neg_tdiv, Int.neg_neg]
    rw [e] at bd ⊢
    clear e
    have da : decide (x < 0) = true := by simp; omega
    have db : decide (y < 0) = false := by simp; omega
    obtain ⟨A, hA⟩ : ∃ A, -x = A := ⟨_, rfl⟩
    have hA' : 0 ≤ A ∧ A ≤ 2147483648 := by omega
    have hB' : 1 ≤ y := by omega
    rw [hA] at bd ⊢
    go_enter Tryz.func79, Tryz.ntmps79
    go_wp2
    go_ret
    exact ⟨rfl, rfl⟩
  · have e : x.tdiv y = -(x / -y) := by rw [← Int.tdiv_eq_ediv_of_nonneg ga, Int.tdiv_neg, Int.neg_neg]
    rw [e] at bd ⊢
    clear e
    have da : decide (x < 0) = false := by simp; omega
    have db : decide (y < 0) = true := by simp; omega
    obtain ⟨B, hB⟩ : ∃ B, -y = B := ⟨_, rfl⟩
    have hB' : 1 ≤ B := by omega
    rw [hB] at bd ⊢
    go_enter Tryz.func79, Tryz.ntmps79
    go_wp2
    go_ret
    exact ⟨rfl, rfl⟩
  · have e : x.tdiv y = x / y := Int.tdiv_eq_ediv_of_nonneg ga
    rw [e] at bd ⊢
    clear e
    have da : decide (x < 0) = false := by simp; omega
    have db : decide (y < 0) = false := by simp; omega
    have hB' : 1 ≤ y := by omega
    go_enter Tryz.func79, Tryz.ntmps79
    go_wp2
    go_ret
    exact ⟨rfl, rfl⟩

theorem wide_13 (x y : Int) (w : World) (hx : W32 x) (hy : 0 ≤ y ∧ y ≤ 31) : Calls Tryz.prog 79 #[.int .i64 13, .int .i64 x, .int .i64 y] w fun e w' => e = .returned (.int .i64 (x * 2 ^ y.toNat)) ∧ w' = w := by
  have hp := pow_bd y.toNat 31 (by omega)
  have hb := mul_wd (a := x) (b := 2 ^ y.toNat) hx (by omega)
  have HP := fun w => hide (rpower_any y w (by omega))
  obtain ⟨p, hpp⟩ : ∃ p, (2 : Int) ^ y.toNat = p := ⟨_, rfl⟩
  rw [hpp] at HP hp hb ⊢
  clear hpp
  go_enter Tryz.func79, Tryz.ntmps79
  go_wp2_with fail
  refine (HP _).out.mono ?_
  rintro e w2 ⟨rfl, hw⟩
  have hq := hw.symm
  subst hq
  go_wp2_with fail
  go_ret
  exact ⟨rfl, rfl⟩

theorem wide_14 (x y : Int) (w : World) (hx : W32 x) (hy : 0 ≤ y ∧ y ≤ 31) : Calls Tryz.prog 79 #[.int .i64 14, .int .i64 x, .int .i64 y] w fun e w' => e = .returned (.int .i64 (x / 2 ^ y.toNat)) ∧ w' = w := by
  have hp := pow_bd y.toNat 31 (by omega)
  have HP := fun w => hide (rpower_any y w (by omega))
  have HF := fun w => hide (rfloor_any x (2 ^ y.toNat) w (by omega) (by omega))
  obtain ⟨p, hpp⟩ : ∃ p, (2 : Int) ^ y.toNat = p := ⟨_, rfl⟩
  rw [hpp] at HP HF hp ⊢
  clear hpp
  go_enter Tryz.func79, Tryz.ntmps79
  go_wp2_with fail
  refine (HP _).out.mono ?_
  rintro e w2 ⟨rfl, hw⟩
  have hq := hw.symm
  subst hq
  go_wp2_with fail
  refine (HF _).out.mono ?_
  rintro e w2 ⟨rfl, hw⟩
  have hq := hw.symm
  subst hq
  go_wp2_with fail
  go_ret
  exact ⟨rfl, rfl⟩

end Go.Proofs.YtbingoelpeoimaaGreat.Spn

/-
  The document's own functions of layer 5: corners, room, bitwise.
-/
namespace Go.Proofs.YtbingoelpeoimaaGreat.Spn
open Go.RowKit Go.IntWalk Go.Sort
set_option linter.unusedVariables false

theorem lit4 (w : World) (t : TypeId) (x y z u : Int) : Ints (w.alloc (.cells #[.int .i64 x, .int .i64 y, .int .i64 z, .int .i64 u] t)) (some ⟨w.heap.size, 0, none⟩) 4 4 [x, y, z, u] := by
  refine ⟨rfl, Nat.le_refl _, by decide, (fun h => by cases h), .inr ⟨_, _, rfl, fun i hi => ?_⟩⟩
  rcases (show i = 0 ∨ i = 1 ∨ i = 2 ∨ i = 3 by omega) with rfl | rfl | rfl | rfl <;> simp

/-- The three blocks of a function of two spans. -/
structure B3 (w W : World) (a b c d x y : Int) : Prop where
  a : HasC W w.heap.size 64 #[.int .i64 a, .int .i64 b]
  b : HasC W (w.heap.size + 1) 64 #[.int .i64 c, .int .i64 d]
  r : HasC W (w.heap.size + 1 + 1) 64 #[.int .i64 x, .int .i64 y]
  bel : Below w.heap.size w W
theorem B3.later {w W W' : World} {a b c d x y : Int} (h : B3 w W a b c d x y) (hb : Below W.heap.size W W') : B3 w W' a b c d x y := ⟨h.a.below hb, h.b.below hb, h.r.below hb, h.bel.trans (hb.mono h.bel.size)⟩
theorem B3.start (w : World) (a b c d x y : Int) : B3 w (((w.alloc (cs a b)).alloc (cs c d)).alloc (cs x y)) a b c d x y := by
  obtain ⟨h1, h2, h3, h4⟩ := box2 (w := w) (a := a) (b := b) (c := c) (d := d) (x := x) (y := y) (Below.refl _ _)
  exact ⟨h1, h2, h3, h4⟩
theorem B3.drew {w W : World} {a b c d x y : Int} (h : B3 w W a b c d x y) : B3 w W.drew a b c d x y := h.later (below_drew W)

set_option maxRecDepth 100000 in
set_option maxHeartbeats 4000000 in
theorem qcorners_any (op a b c d : Int) (g : Int → Int → Int) (w : World) (H : ∀ x y w, (x = a ∨ x = b) → (y = c ∨ y = d) → Calls Tryz.prog 79 #[.int .i64 op, .int .i64 x, .int .i64 y] w fun e w' => e = .returned (.int .i64 (g x y)) ∧ w' = w) :
    Calls Tryz.prog 64 #[.int .i64 op, .agg #[.int .i64 a, .int .i64 b], .agg #[.int .i64 c, .int .i64 d]] w fun e w' => e = .returned (.agg #[.int .i64 (hlo [g a c, g a d, g b c, g b d]), .int .i64 (hhi [g a c, g a d, g b c, g b d])]) ∧ Below w.heap.size w w' := by
  have HB := hide (B3.start w a b c d 0 0)
  have HW := hide H
  clear H
  obtain ⟨x, hx⟩ : ∃ x, hlo [g a c, g a d, g b c, g b d] = x := ⟨_, rfl⟩
  obtain ⟨y, hy⟩ : ∃ y, hhi [g a c, g a d, g b c, g b d] = y := ⟨_, rfl⟩
  have HU := hide fun W => hull_any _ 4 4 _ _ ((lit4 W 3 (g a c) (g a d) (g b c) (g b d)).later (below_drew _)) (by decide) (by decide)
  rw [hx, hy] at HU ⊢
  clear hx hy
  go_enter Tryz.func64, Tryz.ntmps64
  go_wp2_with fail
  obtain ⟨W, hW⟩ : ∃ W, ((w.alloc (.cells #[.int .i64 a, .int .i64 b] 64)).alloc (.cells #[.int .i64 c, .int .i64 d] 64)).alloc (.cells #[.int .i64 0, .int .i64 0] 64) = W := ⟨_, rfl⟩
  rw [hW] at HB ⊢
  clear hW
  obtain ⟨d0, d1, -, -⟩ := facts2 HB.out.a
  obtain ⟨d2, d3, -, -⟩ := facts2 HB.out.b
  have hl0 := HB.out.a.lt
  have hl2 := HB.out.b.lt
  go_region_held3 (fun w' => w'.cell? ⟨w.heap.size, 0, none⟩ = some (.int .i64 a) ∧ w'.cell? ⟨w.heap.size, 1, none⟩ = some (.int .i64 b) ∧ w'.cell? ⟨w.heap.size + 1, 0, none⟩ = some (.int .i64 c) ∧ w'.cell? ⟨w.heap.size + 1, 1, none⟩ = some (.int .i64 d))
    (first | exact ⟨d0, d1, d2, d3⟩ | exact ⟨t0, t1, t2, t3⟩ | exact ⟨far2 (Nat.lt_succ_self _) (by omega) t0, far2 (Nat.lt_succ_self _) (by omega) t1, far2 (Nat.lt_succ_self _) (by omega) t2, far2 (Nat.lt_succ_self _) (by omega) t3⟩ | exact ⟨(cell_old hl0).trans d0, (cell_old hl0).trans d1, (cell_old hl2).trans d2, (cell_old hl2).trans d3⟩ | go_keep)
    ((first
      | (go_at_call 79; refine (HW.out _ _ _ (by simp) (by simp)).mono ?_; rintro e' w' ⟨rfl, hw'⟩; have hq := hw'.symm; subst hq)
      | (go_at_call 61; refine (HU.out _).mono ?_; rintro e' w2 ⟨rfl, hb2⟩; have HB9 := hide (HB.out.later (bel (bel (bel1 _ _) (below_drew _)) hb2)); obtain ⟨t0, t1, -, -⟩ := facts2 HB9.out.a; obtain ⟨t2, t3, -, -⟩ := facts2 HB9.out.b; obtain ⟨s1, s2, s3, s4⟩ := facts2 HB9.out.r)))
  go_wp2_with fail
  obtain ⟨e0, e1, hB4⟩ := stored2 HB9.out.r HB9.out.bel (by omega) x y
  exact bodyPost_ret (v := .agg #[.int .i64 x, .int .i64 y]) (by simp [results, Tryz.results64, go_sem, e0, e1]) rfl ⟨rfl, hB4⟩

/-- The greatest width of the first j numbers. -/
def mxw (xs : List Int) (j : Nat) : Nat := (xs.take j).foldl (fun m x => max m (wdN x)) 0
theorem mxw_succ {xs : List Int} {j : Nat} {x : Int} (hj : j < xs.length) (hx : xs.getD j 0 = x) : mxw xs (j + 1) = max (mxw xs j) (wdN x) := by
  have e : xs[j] = x := by simpa [List.getD, hj] using hx
  unfold mxw
  rw [List.take_succ_eq_append_getElem hj, e, List.foldl_append]
  rfl

/-- A number fits if its width does. -/
theorem fits_iff {x : Int} {m : Nat} (hx : W32 x) (hm : m ≤ 31) : (x ≤ 2 ^ m - 1 ∧ -(2 ^ m) ≤ x) ↔ wdN x ≤ m := by
  have e : ((2 ^ m : Nat) : Int) = (2 : Int) ^ m := by simp
  constructor
  · intro h
    exact wdN_least (by omega) (by rw [e]; omega)
  · intro h
    have h1 := (wdN_facts hx).2
    have h2 := (pow_mono h).1
    have e' : ((2 ^ wdN x : Nat) : Int) = (2 : Int) ^ wdN x := by simp
    rw [e'] at h1
    omega

set_option maxRecDepth 100000 in
set_option maxHeartbeats 4000000 in
theorem room_any (a : Option Addr) (n cap : Nat) (xs : List Int) (w : World) (h : Ints w a n cap xs) (hn4 : n ≤ 4) (hw : ∀ x ∈ xs, W32 x) :
    Calls Tryz.prog 80 #[.slice a n cap] w fun e w' => e = .returned (.int .i64 (2 ^ mxw xs n)) ∧ w' = w := by
  have hl := h.len
  have HL := hide hl
  have H := hide h
  have HW := hide hw
  have hle := h.le
  clear hl h hw
  go_enter Tryz.func80, Tryz.ntmps80
  go_wp2_with fail
  go_loop [3, 4] (fun p i => ∃ j : Nat, j ≤ n ∧ i = .int .i64 j ∧ p = .int .i64 (2 ^ mxw xs j) ∧ mxw xs j ≤ 31) (fun _ i => n - (intOf i).toNat)
  case atStart => exact ⟨0, by omega, rfl, rfl, by simp [mxw]⟩
  case round =>
    obtain ⟨j, hj, rfl, rfl, hmx⟩ := hrel
    by_cases hlt : j < n
    · have hd1 : decide ((j : Int) < (n : Int)) = true := by simp; omega
      have hj0 : (0 : Int) ≤ (j : Int) := by omega
      have hj1 : (j : Int) < (n : Int) := by omega
      obtain ⟨bb, off, rfl, hbb, hcell⟩ := H.out.at (by omega)
      have g1 := hcell j hlt
      clear hcell
      obtain ⟨x, hx⟩ : ∃ x, xs.getD j 0 = x := ⟨_, rfl⟩
      rw [hx] at g1
      have hwx : W32 x := HW.out x (by rw [← hx]; simp [List.getD, HL.out, hlt])
      have f1 := mxw_succ (by rw [HL.out]; exact hlt) hx
      obtain ⟨M, hM⟩ : ∃ M, mxw xs j = M := ⟨_, rfl⟩
      rw [hM] at f1 hmx ⊢
      have hwb := (wdN_facts hwx).1
      have F1 := hide f1
      have HWX := hide hwx
      clear f1 hM hx hwx
      go_wp2_with fail
      go_loop [3] (fun p => ∃ m : Nat, M ≤ m ∧ m ≤ max M (wdN x) ∧ p = .int .i64 (2 ^ m)) (fun p => 2147483648 - (intOf p).toNat)
      case atStart => exact ⟨M, Nat.le_refl _, by omega, rfl⟩
      case round =>
        obtain ⟨m, hm1, hm2, rfl⟩ := hrel
        have hfit := fits_iff HWX.out (show m ≤ 31 by omega)
        have hpb := pow_bd m 31 (by omega)
        obtain ⟨p, hp⟩ : ∃ p, (2 : Int) ^ m = p := ⟨_, rfl⟩
        rw [hp] at hfit hpb ⊢
        have HPP := hide hp
        have HFT := hide hfit
        have hxx := HWX.out
        clear hp hfit
        by_cases hc1 : p - 1 < x
        · have e1 : decide (p - 1 < x) = true := by simp; omega
          go_wp2_with fail
          go_round
          case rel =>
            have hnf : ¬ wdN x ≤ m := fun hh => by have := HFT.out.2 hh; omega
            refine ⟨m + 1, by omega, by omega, ?_⟩
            rw [Int.pow_succ, HPP.out]
            congr 1
            omega
          case measure => simp [intOf]; omega
        · have e1 : decide (p - 1 < x) = false := by simp; omega
          by_cases hc2 : x < -p
          · have e2 : decide (x < -p) = true := by simp; omega
            go_wp2_with fail
            go_round
            case rel =>
              have hnf : ¬ wdN x ≤ m := fun hh => by have := HFT.out.2 hh; omega
              refine ⟨m + 1, by omega, by omega, ?_⟩
              rw [Int.pow_succ, HPP.out]
              congr 1
              omega
            case measure => simp [intOf]; omega
          · have e2 : decide (x < -p) = false := by simp; omega
            have hfin : wdN x ≤ m := HFT.out.1 (by omega)
            go_wp2_with fail
            go_round
            case rel =>
              refine ⟨j + 1, by omega, by go_num, ?_, by rw [F1.out]; omega⟩
              rw [F1.out, show max M (wdN x) = m by omega, HPP.out]
            case measure => simp [intOf]; omega
    · obtain rfl : j = n := by omega
      have hd1 : decide ((j : Int) < (j : Int)) = false := by simp
      go_wp2_with fail
      go_ret
      exact ⟨rfl, rfl⟩

theorem mxw4 (a b c d : Int) : (2 : Int) ^ mxw [a, b, c, d] 4 = arP a b c d := by
  unfold mxw arP arN
  simp

end Go.Proofs.YtbingoelpeoimaaGreat.Spn
