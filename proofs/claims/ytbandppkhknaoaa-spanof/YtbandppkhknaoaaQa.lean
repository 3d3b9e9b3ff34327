/-
  The document's own functions of layer 5: hull and wide.
-/
import Derived.Test.YtbandppkhknaoaaHoldR
import Derived.Test.YtbandppkhknaoaaRefF
namespace Go.Proofs.Ytbandppkhknaoaa
open Go.RowKit Go.IntWalk Go.Sort
set_option linter.unusedVariables false

def hlo (xs : List Int) : Int := xs.foldl min (xs.getD 0 0)
def hhi (xs : List Int) : Int := xs.foldl max (xs.getD 0 0)

theorem fold_succ {f : Int → Int → Int} {xs : List Int} {z x : Int} {j : Nat} (hj : j < xs.length) (hx : xs.getD j 0 = x) : (xs.take (j + 1)).foldl f z = f ((xs.take j).foldl f z) x := by
  have e : xs[j] = x := by simpa [List.getD, hj] using hx
  rw [List.take_succ_eq_append_getElem hj, e, List.foldl_append]
  rfl

/-- The memory of 'hull'. -/
structure Hu (w W : World) (x y : Int) : Prop where
  r : HasC W w.heap.size 26 #[.int .i64 0, .int .i64 0]
  q : HasC W (w.heap.size + 1) 26 #[.int .i64 x, .int .i64 y]
  bel : Below w.heap.size w W
theorem Hu.drew {w W : World} {x y : Int} (h : Hu w W x y) (n : Nat) : Hu w (W.drewN n) x y := ⟨h.r, h.q, bdrew h.bel n⟩
theorem Hu.lo {w W : World} {x y : Int} (h : Hu w W x y) (x' : Int) : Hu w (W.setCell ⟨w.heap.size + 1, 0, none⟩ (.int .i64 x')) x' y :=
  ⟨h.r.other (p := ⟨w.heap.size + 1, 0, none⟩) (by simp) _, h.q.set 0 _, h.bel.setCell (p := ⟨w.heap.size + 1, 0, none⟩) (by simp) _⟩
theorem Hu.hi {w W : World} {x y : Int} (h : Hu w W x y) (y' : Int) : Hu w (W.setCell ⟨w.heap.size + 1, 1, none⟩ (.int .i64 y')) x y' :=
  ⟨h.r.other (p := ⟨w.heap.size + 1, 1, none⟩) (by simp) _, h.q.set 1 _, h.bel.setCell (p := ⟨w.heap.size + 1, 1, none⟩) (by simp) _⟩

set_option maxHeartbeats 4000000 in
theorem hull_any (a : Option Addr) (n cap : Nat) (xs : List Int) (w : World) (h : Ints w a n cap xs) (hn : n ≠ 0) (hn4 : n ≤ 4) :
    Calls Try.prog 40 #[.slice a n cap] w fun e w' => e = .returned (.agg #[.int .i64 (hlo xs), .int .i64 (hhi xs)]) ∧ Below w.heap.size w w' := by
  have hle := h.le
  have hl := h.len
  obtain ⟨bb, off, rfl, hbb, hcell⟩ := h.at hn
  have HCL := hide hcell
  have HL := hide hl
  have c0 := hcell 0 (by omega)
  rw [Nat.add_zero] at c0
  obtain ⟨x0, hx0⟩ : ∃ x, xs.getD 0 0 = x := ⟨_, rfl⟩
  rw [hx0] at c0
  have HX0 := hide hx0
  have d0 := (cell_old (o := cs 0 0) (i := off) hbb).trans c0
  clear hcell hl hx0 h c0
  have hn0 : (0 : Int) < (n : Int) := by omega
  go_enter Try.func40, Try.ntmps40
  go_wp2_with fail
  go_region
  have hU : Hu w ((w.alloc (cs 0 0)).alloc (cs x0 x0)).drew x0 x0 := by
    have h1 := (HasC.new w 26 #[.int .i64 0, .int .i64 0]).alloc (cs x0 x0)
    have h2 := HasC.new (w.alloc (cs 0 0)) 26 #[.int .i64 x0, .int .i64 x0]
    simp only [World.size_alloc] at h2
    exact ⟨h1, h2, (((Below.refl _ _).alloc (Nat.le_refl _) _).alloc (by simp) _).trans ⟨rfl, rfl, rfl, Nat.le_refl _, fun _ _ => rfl⟩⟩
  have HU := hide hU
  clear hU d0
  go_wp2_with fail
  go_loopw [4] (fun i wr => ∃ j : Nat, j ≤ n ∧ i = .int .i64 j ∧ Hu w wr ((xs.take j).foldl min x0) ((xs.take j).foldl max x0)) (fun i _ => n - (intOf i).toNat)
  case atStart => exact ⟨0, by omega, rfl, HU.out⟩
  case round =>
    rename World => wi
    obtain ⟨j, hj, rfl, hu⟩ := hrel
    have HUJ := hide hu
    clear hu
    by_cases hlt : j < n
    · have hd1 : decide ((j : Int) < (n : Int)) = true := by simp; omega
      have hj0 : (0 : Int) ≤ (j : Int) := by omega
      have hj1 : (j : Int) < (n : Int) := by omega
      obtain ⟨x, hx⟩ : ∃ x, xs.getD j 0 = x := ⟨_, rfl⟩
      have g1 := (HUJ.out.bel.cell (p := ⟨bb, off + j, none⟩) hbb).trans (HCL.out j hlt)
      rw [hx] at g1
      have f1 := fold_succ (f := min) (z := x0) (by rw [HL.out]; exact hlt) hx
      have f2 := fold_succ (f := max) (z := x0) (by rw [HL.out]; exact hlt) hx
      obtain ⟨p, hp⟩ : ∃ p, (xs.take j).foldl min x0 = p := ⟨_, rfl⟩
      obtain ⟨q, hq⟩ : ∃ q, (xs.take j).foldl max x0 = q := ⟨_, rfl⟩
      rw [hp] at f1
      rw [hq] at f2
      rw [hp, hq] at HUJ
      have HXX := hide hx
      have F1 := hide f1
      have F2 := hide f2
      clear f1 f2 hp hq hx
      obtain ⟨r1, r2, r3, r4⟩ := facts2 HUJ.out.q
      have hbw : bb ≠ w.heap.size + 1 := by omega
      by_cases hxp : x < p <;> by_cases hxq : q < x
      · have e1 : decide (x < p) = true := by simp [hxp]
        have e2 : decide (q < x) = true := by simp [hxq]
        go_wp2_with fail
        go_quiet (fail)
        go_wp2_with fail
        have HV := hide (HUJ.out.drew nq)
        have HV1 := hide (HV.out.lo x)
        obtain ⟨W1, hW1⟩ : ∃ W1, (wi.drewN nq).setCell ⟨w.heap.size + 1, 0, none⟩ (.int .i64 x) = W1 := ⟨_, rfl⟩
        rw [hW1] at HV1 ⊢
        clear hW1
        clear g1 r1 r2 r3 r4
        have g1 := (HV1.out.bel.cell (p := ⟨bb, off + j, none⟩) hbb).trans (HCL.out j hlt)
        rw [HXX.out] at g1
        obtain ⟨r1, r2, r3, r4⟩ := facts2 HV1.out.q
        go_quiet (fail)
        go_wp2_with fail
        go_roundw
        case rel =>
          refine ⟨j + 1, by omega, by go_num, ?_⟩
          rw [F1.out, F2.out, show min p x = x by omega, show max q x = x by omega]
          exact (HV1.out.drew _).hi x
        case measure => simp [intOf]; omega
      · have e1 : decide (x < p) = true := by simp [hxp]
        have e2 : decide (q < x) = false := by simp; omega
        go_wp2_with fail
        go_quiet (fail)
        go_wp2_with fail
        have HV := hide (HUJ.out.drew nq)
        have HV1 := hide (HV.out.lo x)
        obtain ⟨W1, hW1⟩ : ∃ W1, (wi.drewN nq).setCell ⟨w.heap.size + 1, 0, none⟩ (.int .i64 x) = W1 := ⟨_, rfl⟩
        rw [hW1] at HV1 ⊢
        clear hW1
        clear g1 r1 r2 r3 r4
        have g1 := (HV1.out.bel.cell (p := ⟨bb, off + j, none⟩) hbb).trans (HCL.out j hlt)
        rw [HXX.out] at g1
        obtain ⟨r1, r2, r3, r4⟩ := facts2 HV1.out.q
        go_quiet (fail)
        go_wp2_with fail
        go_roundw
        case rel =>
          refine ⟨j + 1, by omega, by go_num, ?_⟩
          rw [F1.out, F2.out, show min p x = x by omega, show max q x = q by omega]
          exact HV1.out.drew _
        case measure => simp [intOf]; omega
      · have e1 : decide (x < p) = false := by simp; omega
        have e2 : decide (q < x) = true := by simp [hxq]
        go_wp2_with fail
        go_quiet (fail)
        go_wp2_with fail
        have HV := hide (HUJ.out.drew nq)
        have HV1 := hide HV.out
        obtain ⟨W1, hW1⟩ : ∃ W1, wi.drewN nq = W1 := ⟨_, rfl⟩
        rw [hW1] at HV1 ⊢
        clear hW1
        clear g1 r1 r2 r3 r4
        have g1 := (HV1.out.bel.cell (p := ⟨bb, off + j, none⟩) hbb).trans (HCL.out j hlt)
        rw [HXX.out] at g1
        obtain ⟨r1, r2, r3, r4⟩ := facts2 HV1.out.q
        go_quiet (fail)
        go_wp2_with fail
        go_roundw
        case rel =>
          refine ⟨j + 1, by omega, by go_num, ?_⟩
          rw [F1.out, F2.out, show min p x = p by omega, show max q x = x by omega]
          exact (HV1.out.drew _).hi x
        case measure => simp [intOf]; omega
      · have e1 : decide (x < p) = false := by simp; omega
        have e2 : decide (q < x) = false := by simp; omega
        go_wp2_with fail
        go_quiet (fail)
        go_wp2_with fail
        have HV := hide (HUJ.out.drew nq)
        have HV1 := hide HV.out
        obtain ⟨W1, hW1⟩ : ∃ W1, wi.drewN nq = W1 := ⟨_, rfl⟩
        rw [hW1] at HV1 ⊢
        clear hW1
        clear g1 r1 r2 r3 r4
        have g1 := (HV1.out.bel.cell (p := ⟨bb, off + j, none⟩) hbb).trans (HCL.out j hlt)
        rw [HXX.out] at g1
        obtain ⟨r1, r2, r3, r4⟩ := facts2 HV1.out.q
        go_quiet (fail)
        go_wp2_with fail
        go_roundw
        case rel =>
          refine ⟨j + 1, by omega, by go_num, ?_⟩
          rw [F1.out, F2.out, show min p x = p by omega, show max q x = q by omega]
          exact HV1.out.drew _
        case measure => simp [intOf]; omega
    · obtain rfl : j = n := by omega
      have hd1 : decide ((j : Int) < (j : Int)) = false := by simp
      have hu := HUJ.out
      rw [List.take_of_length_le (by rw [HL.out]; omega)] at hu
      have e1 : xs.foldl min x0 = hlo xs := by unfold hlo; rw [HX0.out]
      have e2 : xs.foldl max x0 = hhi xs := by unfold hhi; rw [HX0.out]
      rw [e1, e2] at hu
      obtain ⟨p, hp⟩ : ∃ p, hlo xs = p := ⟨_, rfl⟩
      obtain ⟨q, hq⟩ : ∃ q, hhi xs = q := ⟨_, rfl⟩
      rw [hp, hq] at hu
      have HP := hide hp
      have HQ := hide hq
      have HU2 := hide hu
      clear hu hp hq e1 e2
      obtain ⟨r1, r2, -, -⟩ := facts2 HU2.out.q
      obtain ⟨s1, s2, s3, s4⟩ := facts2 HU2.out.r
      go_wp2_with fail
      obtain ⟨t0, t1, hB⟩ := stored2 HU2.out.r HU2.out.bel (Nat.le_refl _) p q
      exact bodyPost_ret (v := .agg #[.int .i64 p, .int .i64 q]) (by simp [results, Try.results40, go_sem, t0, t1]) rfl ⟨by rw [HP.out, HQ.out], hB⟩

theorem wide_10 (x y : Int) (w : World) (hx : W32 x) (hy : W32 y) : Calls Try.prog 61 #[.int .i64 10, .int .i64 x, .int .i64 y] w fun e w' => e = .returned (.int .i64 (x * y)) ∧ w' = w := by
  have hb := mul_wd (a := x) (b := y) hx (by omega)
  go_enter Try.func61, Try.ntmps61
  go_wp2
  go_ret
  exact ⟨rfl, rfl⟩

theorem wide_11 (x y : Int) (w : World) (hx : W32 x) (hy : W32 y) (h0 : y ≠ 0) : Calls Try.prog 61 #[.int .i64 11, .int .i64 x, .int .i64 y] w fun e w' => e = .returned (.int .i64 (x.tdiv y)) ∧ w' = w := by
  have bd := tdiv_bd x y hx
  rcases (show x < 0 ∨ 0 ≤ x by omega) with ga | ga <;> rcases (show y < 0 ∨ 0 ≤ y by omega) with gb | gb
  · have e : x.tdiv y = -x / -y := by rw [← Int.neg_tdiv_neg, Int.tdiv_eq_ediv_of_nonneg (by omega)]
    rw [e] at bd ⊢
    clear e
    have da : decide (x < 0) = true := by simp; omega
    have db : decide (y < 0) = true := by simp; omega
    obtain ⟨A, hA⟩ : ∃ A, -x = A := ⟨_, rfl⟩
    obtain ⟨B, hB⟩ : ∃ B, -y = B := ⟨_, rfl⟩
    have hA' : 0 ≤ A ∧ A ≤ 2147483648 := by omega
    have hB' : 1 ≤ B := by omega
    rw [hA, hB] at bd ⊢
    go_enter Try.func61, Try.ntmps61
    go_wp2
    go_ret
    exact ⟨rfl, rfl⟩
  · have e : x.tdiv y = -(-x / y) := by rw [← Int.tdiv_eq_ediv_of_nonneg (by omega), Int.neg_tdiv, Int.neg_neg]
    rw [e] at bd ⊢
    clear e
    have da : decide (x < 0) = true := by simp; omega
    have db : decide (y < 0) = false := by simp; omega
    obtain ⟨A, hA⟩ : ∃ A, -x = A := ⟨_, rfl⟩
    have hA' : 0 ≤ A ∧ A ≤ 2147483648 := by omega
    have hB' : 1 ≤ y := by omega
    rw [hA] at bd ⊢
    go_enter Try.func61, Try.ntmps61
    go_wp2
    go_ret
    exact ⟨rfl, rfl⟩
  · have e : x.tdiv y = -(x / -y) := by rw [← Int.tdiv_eq_ediv_of_nonneg ga, Int.tdiv_neg, Int.neg_neg]
    rw [e] at bd ⊢
    clear e
    have da : decide (x < 0) = false := by simp; omega
    have db : decide (y < 0) = true := by simp; omega
    obtain ⟨B, hB⟩ : ∃ B, -y = B := ⟨_, rfl⟩
    have hB' : 1 ≤ B := by omega
    rw [hB] at bd ⊢
    go_enter Try.func61, Try.ntmps61
    go_wp2
    go_ret
    exact ⟨rfl, rfl⟩
  · have e : x.tdiv y = x / y := Int.tdiv_eq_ediv_of_nonneg ga
    rw [e] at bd ⊢
    clear e
    have da : decide (x < 0) = false := by simp; omega
    have db : decide (y < 0) = false := by simp; omega
    have hB' : 1 ≤ y := by omega
    go_enter Try.func61, Try.ntmps61
    go_wp2
    go_ret
    exact ⟨rfl, rfl⟩

theorem wide_13 (x y : Int) (w : World) (hx : W32 x) (hy : 0 ≤ y ∧ y ≤ 31) : Calls Try.prog 61 #[.int .i64 13, .int .i64 x, .int .i64 y] w fun e w' => e = .returned (.int .i64 (x * 2 ^ y.toNat)) ∧ w' = w := by
  have hp := pow_bd y.toNat 31 (by omega)
  have hb := mul_wd (a := x) (b := 2 ^ y.toNat) hx (by omega)
  have HP := fun w => hide (rpower_any y w (by omega))
  obtain ⟨p, hpp⟩ : ∃ p, (2 : Int) ^ y.toNat = p := ⟨_, rfl⟩
  rw [hpp] at HP hp hb ⊢
  clear hpp
  go_enter Try.func61, Try.ntmps61
  go_wp2_with fail
  refine (HP _).out.mono ?_
  rintro e w2 ⟨rfl, hw⟩
  have hq := hw.symm
  subst hq
  go_wp2_with fail
  go_ret
  exact ⟨rfl, rfl⟩

theorem wide_14 (x y : Int) (w : World) (hx : W32 x) (hy : 0 ≤ y ∧ y ≤ 31) : Calls Try.prog 61 #[.int .i64 14, .int .i64 x, .int .i64 y] w fun e w' => e = .returned (.int .i64 (x / 2 ^ y.toNat)) ∧ w' = w := by
  have hp := pow_bd y.toNat 31 (by omega)
  have HP := fun w => hide (rpower_any y w (by omega))
  have HF := fun w => hide (rfloor_any x (2 ^ y.toNat) w (by omega) (by omega))
  obtain ⟨p, hpp⟩ : ∃ p, (2 : Int) ^ y.toNat = p := ⟨_, rfl⟩
  rw [hpp] at HP HF hp ⊢
  clear hpp
  go_enter Try.func61, Try.ntmps61
  go_wp2_with fail
  refine (HP _).out.mono ?_
  rintro e w2 ⟨rfl, hw⟩
  have hq := hw.symm
  subst hq
  go_wp2_with fail
  refine (HF _).out.mono ?_
  rintro e w2 ⟨rfl, hw⟩
  have hq := hw.symm
  subst hq
  go_wp2_with fail
  go_ret
  exact ⟨rfl, rfl⟩

end Go.Proofs.Ytbandppkhknaoaa
