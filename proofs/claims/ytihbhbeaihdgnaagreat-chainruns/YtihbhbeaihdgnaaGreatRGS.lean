/-
  The document's own functions of layer 5: corners, room, bitwise.
-/
import Derived.Test.YtihbhbeaihdgnaaGreatRGR
namespace Go.Proofs.YtihbhbeaihdgnaaGreat.Spn
open Go.RowKit Go.IntWalk Go.Sort
set_option linter.unusedVariables false

theorem lit4 (w : World) (t : TypeId) (x y z u : Int) : Ints (w.alloc (.cells #[.int .i64 x, .int .i64 y, .int .i64 z, .int .i64 u] t)) (some ⟨w.heap.size, 0, none⟩) 4 4 [x, y, z, u] := by
  refine ⟨rfl, Nat.le_refl _, by decide, (fun h => by cases h), .inr ⟨_, _, rfl, fun i hi => ?_⟩⟩
  rcases (show i = 0 ∨ i = 1 ∨ i = 2 ∨ i = 3 by omega) with rfl | rfl | rfl | rfl <;> simp

/-- The three blocks of a function of two spans. -/
structure B3 (w W : World) (a b c d x y : Int) : Prop where
  a : HasC W w.heap.size 74 #[.int .i64 a, .int .i64 b]
  b : HasC W (w.heap.size + 1) 74 #[.int .i64 c, .int .i64 d]
  r : HasC W (w.heap.size + 1 + 1) 74 #[.int .i64 x, .int .i64 y]
  bel : Below w.heap.size w W
theorem B3.later {w W W' : World} {a b c d x y : Int} (h : B3 w W a b c d x y) (hb : Below W.heap.size W W') : B3 w W' a b c d x y := ⟨h.a.below hb, h.b.below hb, h.r.below hb, h.bel.trans (hb.mono h.bel.size)⟩
theorem B3.start (w : World) (a b c d x y : Int) : B3 w (((w.alloc (cs a b)).alloc (cs c d)).alloc (cs x y)) a b c d x y := by
  obtain ⟨h1, h2, h3, h4⟩ := box2 (w := w) (a := a) (b := b) (c := c) (d := d) (x := x) (y := y) (Below.refl _ _)
  exact ⟨h1, h2, h3, h4⟩
theorem B3.drew {w W : World} {a b c d x y : Int} (h : B3 w W a b c d x y) : B3 w W.drew a b c d x y := h.later (below_drew W)

set_option maxRecDepth 100000 in
set_option maxHeartbeats 4000000 in
theorem qcorners_any (op a b c d : Int) (g : Int → Int → Int) (w : World) (H : ∀ x y w, (x = a ∨ x = b) → (y = c ∨ y = d) → Calls Tryz.prog 132 #[.int .i64 op, .int .i64 x, .int .i64 y] w fun e w' => e = .returned (.int .i64 (g x y)) ∧ w' = w) :
    Calls Tryz.prog 94 #[.int .i64 op, .agg #[.int .i64 a, .int .i64 b], .agg #[.int .i64 c, .int .i64 d]] w fun e w' => e = .returned (.agg #[.int .i64 (hlo [g a c, g a d, g b c, g b d]), .int .i64 (hhi [g a c, g a d, g b c, g b d])]) ∧ Below w.heap.size w w' := by
  have HB := hide (B3.start w a b c d 0 0)
  have HW := hide H
  clear H
  obtain ⟨x, hx⟩ : ∃ x, hlo [g a c, g a d, g b c, g b d] = x := ⟨_, rfl⟩
  obtain ⟨y, hy⟩ : ∃ y, hhi [g a c, g a d, g b c, g b d] = y := ⟨_, rfl⟩
  have HU := hide fun W => hull_any _ 4 4 _ _ ((lit4 W 3 (g a c) (g a d) (g b c) (g b d)).later (below_drew _)) (by decide) (by decide)
  rw [hx, hy] at HU ⊢
  clear hx hy
  go_enter Tryz.func94, Tryz.ntmps94
  go_wp2_with fail
  obtain ⟨W, hW⟩ : ∃ W, ((w.alloc (.cells #[.int .i64 a, .int .i64 b] 74)).alloc (.cells #[.int .i64 c, .int .i64 d] 74)).alloc (.cells #[.int .i64 0, .int .i64 0] 74) = W := ⟨_, rfl⟩
  rw [hW] at HB ⊢
  clear hW
  obtain ⟨d0, d1, -, -⟩ := facts2 HB.out.a
  obtain ⟨d2, d3, -, -⟩ := facts2 HB.out.b
  have hl0 := HB.out.a.lt
  have hl2 := HB.out.b.lt
  go_region_held3 (fun w' => w'.cell? ⟨w.heap.size, 0, none⟩ = some (.int .i64 a) ∧ w'.cell? ⟨w.heap.size, 1, none⟩ = some (.int .i64 b) ∧ w'.cell? ⟨w.heap.size + 1, 0, none⟩ = some (.int .i64 c) ∧ w'.cell? ⟨w.heap.size + 1, 1, none⟩ = some (.int .i64 d))
    (first | exact ⟨d0, d1, d2, d3⟩ | exact ⟨t0, t1, t2, t3⟩ | exact ⟨far2 (Nat.lt_succ_self _) (by omega) t0, far2 (Nat.lt_succ_self _) (by omega) t1, far2 (Nat.lt_succ_self _) (by omega) t2, far2 (Nat.lt_succ_self _) (by omega) t3⟩ | exact ⟨(cell_old hl0).trans d0, (cell_old hl0).trans d1, (cell_old hl2).trans d2, (cell_old hl2).trans d3⟩ | go_keep)
    ((first
      | (go_at_call 132; refine (HW.out _ _ _ (by simp) (by simp)).mono ?_; rintro e' w' ⟨rfl, hw'⟩; have hq := hw'.symm; subst hq)
      | (go_at_call 91; refine (HU.out _).mono ?_; rintro e' w2 ⟨rfl, hb2⟩; have HB9 := hide (HB.out.later (bel (bel (bel1 _ _) (below_drew _)) hb2)); obtain ⟨t0, t1, -, -⟩ := facts2 HB9.out.a; obtain ⟨t2, t3, -, -⟩ := facts2 HB9.out.b; obtain ⟨s1, s2, s3, s4⟩ := facts2 HB9.out.r)))
  go_wp2_with fail
  obtain ⟨e0, e1, hB4⟩ := stored2 HB9.out.r HB9.out.bel (by omega) x y
  exact bodyPost_ret (v := .agg #[.int .i64 x, .int .i64 y]) (by simp [results, Tryz.results94, go_sem, e0, e1]) rfl ⟨rfl, hB4⟩

/-- The greatest width of the first j numbers. -/
def mxw (xs : List Int) (j : Nat) : Nat := (xs.take j).foldl (fun m x => max m (wdN x)) 0
theorem mxw_succ {xs : List Int} {j : Nat} {x : Int} (hj : j < xs.length) (hx : xs.getD j 0 = x) : mxw xs (j + 1) = max (mxw xs j) (wdN x) := by
  have e : xs[j] = x := by simpa [List.getD, hj] using hx
  unfold mxw
  rw [List.take_succ_eq_append_getElem hj, e, List.foldl_append]
  rfl

/-- A number fits if its width does. -/
theorem fits_iff {x : Int} {m : Nat} (hx : W32 x) (hm : m ≤ 31) : (x ≤ 2 ^ m - 1 ∧ -(2 ^ m) ≤ x) ↔ wdN x ≤ m := by
  have e : ((2 ^ m : Nat) : Int) = (2 : Int) ^ m := by simp
  constructor
  · intro h
    exact wdN_least (by omega) (by rw [e]; omega)
  · intro h
    have h1 := (wdN_facts hx).2
    have h2 := (pow_mono h).1
    have e' : ((2 ^ wdN x : Nat) : Int) = (2 : Int) ^ wdN x := by simp
    rw [e'] at h1
    omega

set_option maxRecDepth 100000 in
set_option maxHeartbeats 4000000 in
theorem room_any (a : Option Addr) (n cap : Nat) (xs : List Int) (w : World) (h : Ints w a n cap xs) (hn4 : n ≤ 4) (hw : ∀ x ∈ xs, W32 x) :
    Calls Tryz.prog 133 #[.slice a n cap] w fun e w' => e = .returned (.int .i64 (2 ^ mxw xs n)) ∧ w' = w := by
  have hl := h.len
  have HL := hide hl
  have H := hide h
  have HW := hide hw
  have hle := h.le
  clear hl h hw
  go_enter Tryz.func133, Tryz.ntmps133
  go_wp2_with fail
  go_loop [3, 4] (fun p i => ∃ j : Nat, j ≤ n ∧ i = .int .i64 j ∧ p = .int .i64 (2 ^ mxw xs j) ∧ mxw xs j ≤ 31) (fun _ i => n - (intOf i).toNat)
  case atStart => exact ⟨0, by omega, rfl, rfl, by simp [mxw]⟩
  case round =>
    obtain ⟨j, hj, rfl, rfl, hmx⟩ := hrel
    by_cases hlt : j < n
    · have hd1 : decide ((j : Int) < (n : Int)) = true := by simp; omega
      have hj0 : (0 : Int) ≤ (j : Int) := by omega
      have hj1 : (j : Int) < (n : Int) := by omega
      obtain ⟨bb, off, rfl, hbb, hcell⟩ := H.out.at (by omega)
      have g1 := hcell j hlt
      clear hcell
      obtain ⟨x, hx⟩ : ∃ x, xs.getD j 0 = x := ⟨_, rfl⟩
      rw [hx] at g1
      have hwx : W32 x := HW.out x (by rw [← hx]; simp [List.getD, HL.out, hlt])
      have f1 := mxw_succ (by rw [HL.out]; exact hlt) hx
      obtain ⟨M, hM⟩ : ∃ M, mxw xs j = M := ⟨_, rfl⟩
      rw [hM] at f1 hmx ⊢
      have hwb := (wdN_facts hwx).1
      have F1 := hide f1
      have HWX := hide hwx
      clear f1 hM hx hwx
      go_wp2_with fail
      go_loop [3] (fun p => ∃ m : Nat, M ≤ m ∧ m ≤ max M (wdN x) ∧ p = .int .i64 (2 ^ m)) (fun p => 2147483648 - (intOf p).toNat)
      case atStart => exact ⟨M, Nat.le_refl _, by omega, rfl⟩
      case round =>
        obtain ⟨m, hm1, hm2, rfl⟩ := hrel
        have hfit := fits_iff HWX.out (show m ≤ 31 by omega)
        have hpb := pow_bd m 31 (by omega)
        obtain ⟨p, hp⟩ : ∃ p, (2 : Int) ^ m = p := ⟨_, rfl⟩
        rw [hp] at hfit hpb ⊢
        have HPP := hide hp
        have HFT := hide hfit
        have hxx := HWX.out
        clear hp hfit
        by_cases hc1 : p - 1 < x
        · have e1 : decide (p - 1 < x) = true := by simp; omega
          go_wp2_with fail
          go_round
          case rel =>
            have hnf : ¬ wdN x ≤ m := fun hh => by have := HFT.out.2 hh; omega
            refine ⟨m + 1, by omega, by omega, ?_⟩
            rw [Int.pow_succ, HPP.out]
            congr 1
            omega
          case measure => simp [intOf]; omega
        · have e1 : decide (p - 1 < x) = false := by simp; omega
          by_cases hc2 : x < -p
          · have e2 : decide (x < -p) = true := by simp; omega
            go_wp2_with fail
            go_round
            case rel =>
              have hnf : ¬ wdN x ≤ m := fun hh => by have := HFT.out.2 hh; omega
              refine ⟨m + 1, by omega, by omega, ?_⟩
              rw [Int.pow_succ, HPP.out]
              congr 1
              omega
            case measure => simp [intOf]; omega
          · have e2 : decide (x < -p) = false := by simp; omega
            have hfin : wdN x ≤ m := HFT.out.1 (by omega)
            go_wp2_with fail
            go_round
            case rel =>
              refine ⟨j + 1, by omega, by go_num, ?_, by rw [F1.out]; omega⟩
              rw [F1.out, show max M (wdN x) = m by omega, HPP.out]
            case measure => simp [intOf]; omega
    · obtain rfl : j = n := by omega
      have hd1 : decide ((j : Int) < (j : Int)) = false := by simp
      go_wp2_with fail
      go_ret
      exact ⟨rfl, rfl⟩

theorem mxw4 (a b c d : Int) : (2 : Int) ^ mxw [a, b, c, d] 4 = arP a b c d := by
  unfold mxw arP arN
  simp

end Go.Proofs.YtihbhbeaihdgnaaGreat.Spn

/-
  The document's own functions of layer 5: bitwise, compared, ends.
-/
namespace Go.Proofs.YtihbhbeaihdgnaaGreat.Spn
open Go.RowKit Go.IntWalk Go.Sort
set_option linter.unusedVariables false

theorem fld0 (x y : Int) (w : World) : (Instr.field 74 (.agg #[.int .i64 x, .int .i64 y]) 0).run Tryz.prog w = .ok (.int .i64 x) w := by
  simp [Instr.field, asAgg, go_sem]
theorem fld1 (x y : Int) (w : World) : (Instr.field 74 (.agg #[.int .i64 x, .int .i64 y]) 1).run Tryz.prog w = .ok (.int .i64 y) w := by
  simp [Instr.field, asAgg, go_sem]
attribute [local go_sem] fld0 fld1

theorem h2 (a b : Int) : hlo [a, b] = min a b ∧ hhi [a, b] = max a b := by
  simp [hlo, hhi]
theorem h4 (a b c d : Int) : hlo [a, b, c, d] = min (min (min a b) c) d ∧ hhi [a, b, c, d] = max (max (max a b) c) d := by
  simp [hlo, hhi]
theorem hull2 (w : World) (a b : Int) : Calls Tryz.prog 91 #[.slice (some ⟨w.heap.size, 0, none⟩) 2 2] (w.alloc (.cells #[.int .i64 a, .int .i64 b] 3)) fun e w' => e = .returned (.agg #[.int .i64 (min a b), .int .i64 (max a b)]) ∧ Below (w.alloc (.cells #[.int .i64 a, .int .i64 b] 3)).heap.size (w.alloc (.cells #[.int .i64 a, .int .i64 b] 3)) w' := by
  have h := hull_any _ 2 2 _ _ (lit2 w 3 a b) (by decide) (by decide)
  rw [(h2 a b).1, (h2 a b).2] at h
  exact h
theorem hull4 (w : World) (a b c d : Int) : Calls Tryz.prog 91 #[.slice (some ⟨w.heap.size, 0, none⟩) 4 4] (w.alloc (.cells #[.int .i64 a, .int .i64 b, .int .i64 c, .int .i64 d] 3)) fun e w' => e = .returned (.agg #[.int .i64 (min (min (min a b) c) d), .int .i64 (max (max (max a b) c) d)]) ∧ Below (w.alloc (.cells #[.int .i64 a, .int .i64 b, .int .i64 c, .int .i64 d] 3)).heap.size (w.alloc (.cells #[.int .i64 a, .int .i64 b, .int .i64 c, .int .i64 d] 3)) w' := by
  have h := hull_any _ 4 4 _ _ (lit4 w 3 a b c d) (by decide) (by decide)
  rw [(h4 a b c d).1, (h4 a b c d).2] at h
  exact h

set_option maxRecDepth 100000 in
set_option maxHeartbeats 1000000 in
theorem qbit_and (a b c d : Int) (w : World) (ha : W32 a) (hb : W32 b) (hc : W32 c) (hd : W32 d) : Calls Tryz.prog 95 #[.int .i64 15, .agg #[.int .i64 a, .int .i64 b], .agg #[.int .i64 c, .int .i64 d]] w fun e w' => e = .returned (.agg #[.int .i64 (bothZ a b c d).1, .int .i64 (bothZ a b c d).2]) ∧ Below w.heap.size w w' := by
  have HB := hide ((B3.start w a b c d 0 0).later (bel1 _ (.cells #[.int .i64 a, .int .i64 b, .int .i64 c, .int .i64 d] 3)))
  have HR0 := room_any _ 4 4 _ _ (lit4 (((w.alloc (cs a b)).alloc (cs c d)).alloc (cs 0 0)) 3 a b c d) (by decide) (by intro x hx; simp at hx; rcases hx with rfl | rfl | rfl | rfl <;> assumption)
  simp only [mxw4, World.size_alloc] at HR0
  have HR := hide HR0
  clear HR0
  have hP := (arP_bd ha hb hc hd).2
  rcases (show (0 ≤ a ∧ 0 ≤ c ∧ d < b) ∨ (0 ≤ a ∧ 0 ≤ c ∧ b ≤ d) ∨ (0 ≤ a ∧ c < 0) ∨ (a < 0 ∧ 0 ≤ c) ∨ (a < 0 ∧ c < 0) by omega) with g | g | g | g | g
  · have e1 : decide (0 ≤ a) = true := by simp; omega
    have e2 : decide (0 ≤ c) = true := by simp; omega
    have e3 : decide (a < 0) = false := by simp; omega
    have e4 : decide (d < b) = true := by simp; omega
    rw [show bothZ a b c d = (0, d) by unfold bothZ; rw [if_pos (by omega), show min b d = d by omega]]
    generalize arP a b c d = p at *
    go_enter Tryz.func95, Tryz.ntmps95
    go_wp2_with fail
    refine HR.out.mono ?_
    rintro e w2 ⟨rfl, hw2⟩
    have hq := hw2.symm
    subst hq
    clear hw2
    have f := fun x' y' : Int => HB.out.later (bel1 _ (cs x' y'))
    have q1 := fun x' y' => (facts2 (f x' y').a).1
    have q2 := fun x' y' => (facts2 (f x' y').a).2.1
    have r1 := fun x' y' => (facts2 (f x' y').b).1
    have r2 := fun x' y' => (facts2 (f x' y').b).2.1
    have s1 := fun x' y' => (facts2 (f x' y').r).1
    have s2 := fun x' y' => (facts2 (f x' y').r).2.1
    have s3 := fun x' y' => (facts2 (f x' y').r).2.2.1
    have s4 := fun x' y' => (facts2 (f x' y').r).2.2.2
    have HB2 := hide f
    clear f
    obtain ⟨u1, u2, -, -⟩ := facts2 HB.out.a
    obtain ⟨u3, u4, -, -⟩ := facts2 HB.out.b
    obtain ⟨u5, u6, u7, u8⟩ := facts2 HB.out.r
    obtain ⟨W, hW⟩ : ∃ W, ((((w.alloc (.cells #[.int .i64 a, .int .i64 b] 74)).alloc (.cells #[.int .i64 c, .int .i64 d] 74)).alloc (.cells #[.int .i64 0, .int .i64 0] 74)).alloc (.cells #[.int .i64 a, .int .i64 b, .int .i64 c, .int .i64 d] 3)) = W := ⟨_, rfl⟩
    rw [hW] at q1 q2 r1 r2 s1 s2 s3 s4 u1 u2 u3 u4 u5 u6 u7 u8 HB HB2 ⊢
    clear hW
    go_wp2_with fail
    obtain ⟨c0, c1, hB4⟩ := stored2 (HB2.out _ _).r (HB2.out _ _).bel (by omega) (0) (d)
    exact bodyPost_ret (v := .agg #[.int .i64 (0), .int .i64 (d)]) (by simp [results, Tryz.results95, go_sem, c0, c1]) rfl ⟨rfl, hB4⟩
  · have e1 : decide (0 ≤ a) = true := by simp; omega
    have e2 : decide (0 ≤ c) = true := by simp; omega
    have e3 : decide (a < 0) = false := by simp; omega
    have e4 : decide (d < b) = false := by simp; omega
    rw [show bothZ a b c d = (0, b) by unfold bothZ; rw [if_pos (by omega), show min b d = b by omega]]
    generalize arP a b c d = p at *
    go_enter Tryz.func95, Tryz.ntmps95
    go_wp2_with fail
    refine HR.out.mono ?_
    rintro e w2 ⟨rfl, hw2⟩
    have hq := hw2.symm
    subst hq
    clear hw2
    have f := fun x' y' : Int => HB.out.later (bel1 _ (cs x' y'))
    have q1 := fun x' y' => (facts2 (f x' y').a).1
    have q2 := fun x' y' => (facts2 (f x' y').a).2.1
    have r1 := fun x' y' => (facts2 (f x' y').b).1
    have r2 := fun x' y' => (facts2 (f x' y').b).2.1
    have s1 := fun x' y' => (facts2 (f x' y').r).1
    have s2 := fun x' y' => (facts2 (f x' y').r).2.1
    have s3 := fun x' y' => (facts2 (f x' y').r).2.2.1
    have s4 := fun x' y' => (facts2 (f x' y').r).2.2.2
    have HB2 := hide f
    clear f
    obtain ⟨u1, u2, -, -⟩ := facts2 HB.out.a
    obtain ⟨u3, u4, -, -⟩ := facts2 HB.out.b
    obtain ⟨u5, u6, u7, u8⟩ := facts2 HB.out.r
    obtain ⟨W, hW⟩ : ∃ W, ((((w.alloc (.cells #[.int .i64 a, .int .i64 b] 74)).alloc (.cells #[.int .i64 c, .int .i64 d] 74)).alloc (.cells #[.int .i64 0, .int .i64 0] 74)).alloc (.cells #[.int .i64 a, .int .i64 b, .int .i64 c, .int .i64 d] 3)) = W := ⟨_, rfl⟩
    rw [hW] at q1 q2 r1 r2 s1 s2 s3 s4 u1 u2 u3 u4 u5 u6 u7 u8 HB HB2 ⊢
    clear hW
    go_wp2_with fail
    obtain ⟨c0, c1, hB4⟩ := stored2 (HB2.out _ _).r (HB2.out _ _).bel (by omega) (0) (b)
    exact bodyPost_ret (v := .agg #[.int .i64 (0), .int .i64 (b)]) (by simp [results, Tryz.results95, go_sem, c0, c1]) rfl ⟨rfl, hB4⟩
  · have e1 : decide (0 ≤ a) = true := by simp; omega
    have e2 : decide (0 ≤ c) = false := by simp; omega
    have e3 : decide (a < 0) = false := by simp; omega
    rw [show bothZ a b c d = (0, b) by unfold bothZ; rw [if_neg (by omega), if_pos (by omega)]]
    generalize arP a b c d = p at *
    go_enter Tryz.func95, Tryz.ntmps95
    go_wp2_with fail
    refine HR.out.mono ?_
    rintro e w2 ⟨rfl, hw2⟩
    have hq := hw2.symm
    subst hq
    clear hw2
    have f := fun x' y' : Int => HB.out.later (bel1 _ (cs x' y'))
    have q1 := fun x' y' => (facts2 (f x' y').a).1
    have q2 := fun x' y' => (facts2 (f x' y').a).2.1
    have r1 := fun x' y' => (facts2 (f x' y').b).1
    have r2 := fun x' y' => (facts2 (f x' y').b).2.1
    have s1 := fun x' y' => (facts2 (f x' y').r).1
    have s2 := fun x' y' => (facts2 (f x' y').r).2.1
    have s3 := fun x' y' => (facts2 (f x' y').r).2.2.1
    have s4 := fun x' y' => (facts2 (f x' y').r).2.2.2
    have HB2 := hide f
    clear f
    obtain ⟨u1, u2, -, -⟩ := facts2 HB.out.a
    obtain ⟨u3, u4, -, -⟩ := facts2 HB.out.b
    obtain ⟨u5, u6, u7, u8⟩ := facts2 HB.out.r
    obtain ⟨W, hW⟩ : ∃ W, ((((w.alloc (.cells #[.int .i64 a, .int .i64 b] 74)).alloc (.cells #[.int .i64 c, .int .i64 d] 74)).alloc (.cells #[.int .i64 0, .int .i64 0] 74)).alloc (.cells #[.int .i64 a, .int .i64 b, .int .i64 c, .int .i64 d] 3)) = W := ⟨_, rfl⟩
    rw [hW] at q1 q2 r1 r2 s1 s2 s3 s4 u1 u2 u3 u4 u5 u6 u7 u8 HB HB2 ⊢
    clear hW
    go_wp2_with fail
    obtain ⟨c0, c1, hB4⟩ := stored2 (HB2.out _ _).r (HB2.out _ _).bel (by omega) (0) (b)
    exact bodyPost_ret (v := .agg #[.int .i64 (0), .int .i64 (b)]) (by simp [results, Tryz.results95, go_sem, c0, c1]) rfl ⟨rfl, hB4⟩
  · have e1 : decide (0 ≤ a) = false := by simp; omega
    have e2 : decide (0 ≤ c) = true := by simp; omega
    have e3 : decide (a < 0) = true := by simp; omega
    rw [show bothZ a b c d = (0, d) by unfold bothZ; rw [if_neg (by omega), if_neg (by omega), if_pos (by omega)]]
    generalize arP a b c d = p at *
    go_enter Tryz.func95, Tryz.ntmps95
    go_wp2_with fail
    refine HR.out.mono ?_
    rintro e w2 ⟨rfl, hw2⟩
    have hq := hw2.symm
    subst hq
    clear hw2
    have f := fun x' y' : Int => HB.out.later (bel1 _ (cs x' y'))
    have q1 := fun x' y' => (facts2 (f x' y').a).1
    have q2 := fun x' y' => (facts2 (f x' y').a).2.1
    have r1 := fun x' y' => (facts2 (f x' y').b).1
    have r2 := fun x' y' => (facts2 (f x' y').b).2.1
    have s1 := fun x' y' => (facts2 (f x' y').r).1
    have s2 := fun x' y' => (facts2 (f x' y').r).2.1
    have s3 := fun x' y' => (facts2 (f x' y').r).2.2.1
    have s4 := fun x' y' => (facts2 (f x' y').r).2.2.2
    have HB2 := hide f
    clear f
    obtain ⟨u1, u2, -, -⟩ := facts2 HB.out.a
    obtain ⟨u3, u4, -, -⟩ := facts2 HB.out.b
    obtain ⟨u5, u6, u7, u8⟩ := facts2 HB.out.r
    obtain ⟨W, hW⟩ : ∃ W, ((((w.alloc (.cells #[.int .i64 a, .int .i64 b] 74)).alloc (.cells #[.int .i64 c, .int .i64 d] 74)).alloc (.cells #[.int .i64 0, .int .i64 0] 74)).alloc (.cells #[.int .i64 a, .int .i64 b, .int .i64 c, .int .i64 d] 3)) = W := ⟨_, rfl⟩
    rw [hW] at q1 q2 r1 r2 s1 s2 s3 s4 u1 u2 u3 u4 u5 u6 u7 u8 HB HB2 ⊢
    clear hW
    go_wp2_with fail
    obtain ⟨c0, c1, hB4⟩ := stored2 (HB2.out _ _).r (HB2.out _ _).bel (by omega) (0) (d)
    exact bodyPost_ret (v := .agg #[.int .i64 (0), .int .i64 (d)]) (by simp [results, Tryz.results95, go_sem, c0, c1]) rfl ⟨rfl, hB4⟩
  · have e1 : decide (0 ≤ a) = false := by simp; omega
    have e2 : decide (0 ≤ c) = false := by simp; omega
    have e3 : decide (a < 0) = true := by simp; omega
    rw [show bothZ a b c d = (-arP a b c d, arP a b c d - 1) by unfold bothZ; rw [if_neg (by omega), if_neg (by omega), if_neg (by omega)]]
    generalize arP a b c d = p at *
    go_enter Tryz.func95, Tryz.ntmps95
    go_wp2_with fail
    refine HR.out.mono ?_
    rintro e w2 ⟨rfl, hw2⟩
    have hq := hw2.symm
    subst hq
    clear hw2
    have f := fun x' y' : Int => HB.out.later (bel1 _ (cs x' y'))
    have q1 := fun x' y' => (facts2 (f x' y').a).1
    have q2 := fun x' y' => (facts2 (f x' y').a).2.1
    have r1 := fun x' y' => (facts2 (f x' y').b).1
    have r2 := fun x' y' => (facts2 (f x' y').b).2.1
    have s1 := fun x' y' => (facts2 (f x' y').r).1
    have s2 := fun x' y' => (facts2 (f x' y').r).2.1
    have s3 := fun x' y' => (facts2 (f x' y').r).2.2.1
    have s4 := fun x' y' => (facts2 (f x' y').r).2.2.2
    have HB2 := hide f
    clear f
    obtain ⟨u1, u2, -, -⟩ := facts2 HB.out.a
    obtain ⟨u3, u4, -, -⟩ := facts2 HB.out.b
    obtain ⟨u5, u6, u7, u8⟩ := facts2 HB.out.r
    obtain ⟨W, hW⟩ : ∃ W, ((((w.alloc (.cells #[.int .i64 a, .int .i64 b] 74)).alloc (.cells #[.int .i64 c, .int .i64 d] 74)).alloc (.cells #[.int .i64 0, .int .i64 0] 74)).alloc (.cells #[.int .i64 a, .int .i64 b, .int .i64 c, .int .i64 d] 3)) = W := ⟨_, rfl⟩
    rw [hW] at q1 q2 r1 r2 s1 s2 s3 s4 u1 u2 u3 u4 u5 u6 u7 u8 HB HB2 ⊢
    clear hW
    go_wp2_with fail
    obtain ⟨c0, c1, hB4⟩ := stored2 (HB2.out _ _).r (HB2.out _ _).bel (by omega) (-p) (p - 1)
    exact bodyPost_ret (v := .agg #[.int .i64 (-p), .int .i64 (p - 1)]) (by simp [results, Tryz.results95, go_sem, c0, c1]) rfl ⟨rfl, hB4⟩

set_option maxRecDepth 100000 in
set_option maxHeartbeats 1000000 in
theorem qbit_16 (a b c d : Int) (w : World) (ha : W32 a) (hb : W32 b) (hc : W32 c) (hd : W32 d) : Calls Tryz.prog 95 #[.int .i64 16, .agg #[.int .i64 a, .int .i64 b], .agg #[.int .i64 c, .int .i64 d]] w fun e w' => e = .returned (.agg #[.int .i64 (eithZ 16 a b c d).1, .int .i64 (eithZ 16 a b c d).2]) ∧ Below w.heap.size w w' := by
  have HB := hide ((B3.start w a b c d 0 0).later (bel1 _ (.cells #[.int .i64 a, .int .i64 b, .int .i64 c, .int .i64 d] 3)))
  have HR0 := room_any _ 4 4 _ _ (lit4 (((w.alloc (cs a b)).alloc (cs c d)).alloc (cs 0 0)) 3 a b c d) (by decide) (by intro x hx; simp at hx; rcases hx with rfl | rfl | rfl | rfl <;> assumption)
  simp only [mxw4, World.size_alloc] at HR0
  have HR := hide HR0
  clear HR0
  have hP := (arP_bd ha hb hc hd).2
  rcases (show a < 0 ∨ (0 ≤ a ∧ c < 0) ∨ (0 ≤ a ∧ 0 ≤ c) by omega) with g | g | g
  · have e3 : decide (a < 0) = true := by simp; omega
    rw [show eithZ 16 a b c d = (-arP a b c d, arP a b c d - 1) by unfold eithZ; rw [if_pos (by omega)]]
    generalize arP a b c d = p at *
    go_enter Tryz.func95, Tryz.ntmps95
    go_wp2_with fail
    refine HR.out.mono ?_
    rintro e w2 ⟨rfl, hw2⟩
    have hq := hw2.symm
    subst hq
    clear hw2
    have f := fun x' y' : Int => HB.out.later (bel1 _ (cs x' y'))
    have q1 := fun x' y' => (facts2 (f x' y').a).1
    have q2 := fun x' y' => (facts2 (f x' y').a).2.1
    have r1 := fun x' y' => (facts2 (f x' y').b).1
    have r2 := fun x' y' => (facts2 (f x' y').b).2.1
    have s1 := fun x' y' => (facts2 (f x' y').r).1
    have s2 := fun x' y' => (facts2 (f x' y').r).2.1
    have s3 := fun x' y' => (facts2 (f x' y').r).2.2.1
    have s4 := fun x' y' => (facts2 (f x' y').r).2.2.2
    have HB2 := hide f
    clear f
    obtain ⟨u1, u2, -, -⟩ := facts2 HB.out.a
    obtain ⟨u3, u4, -, -⟩ := facts2 HB.out.b
    obtain ⟨u5, u6, u7, u8⟩ := facts2 HB.out.r
    obtain ⟨W, hW⟩ : ∃ W, ((((w.alloc (.cells #[.int .i64 a, .int .i64 b] 74)).alloc (.cells #[.int .i64 c, .int .i64 d] 74)).alloc (.cells #[.int .i64 0, .int .i64 0] 74)).alloc (.cells #[.int .i64 a, .int .i64 b, .int .i64 c, .int .i64 d] 3)) = W := ⟨_, rfl⟩
    rw [hW] at q1 q2 r1 r2 s1 s2 s3 s4 u1 u2 u3 u4 u5 u6 u7 u8 HB HB2 ⊢
    clear hW
    clear q1 q2 r1 r2 s1 s2 s3 s4
    go_wp2_with fail
    obtain ⟨c0, c1, hB4⟩ := stored2 HB.out.r HB.out.bel (by omega) (-p) (p - 1)
    exact bodyPost_ret (v := .agg #[.int .i64 (-p), .int .i64 (p - 1)]) (by simp [results, Tryz.results95, go_sem, c0, c1]) rfl ⟨rfl, hB4⟩
  · have e3 : decide (a < 0) = false := by simp; omega
    have e4 : decide (c < 0) = true := by simp; omega
    rw [show eithZ 16 a b c d = (-arP a b c d, arP a b c d - 1) by unfold eithZ; rw [if_pos (by omega)]]
    generalize arP a b c d = p at *
    go_enter Tryz.func95, Tryz.ntmps95
    go_wp2_with fail
    refine HR.out.mono ?_
    rintro e w2 ⟨rfl, hw2⟩
    have hq := hw2.symm
    subst hq
    clear hw2
    have f := fun x' y' : Int => HB.out.later (bel1 _ (cs x' y'))
    have q1 := fun x' y' => (facts2 (f x' y').a).1
    have q2 := fun x' y' => (facts2 (f x' y').a).2.1
    have r1 := fun x' y' => (facts2 (f x' y').b).1
    have r2 := fun x' y' => (facts2 (f x' y').b).2.1
    have s1 := fun x' y' => (facts2 (f x' y').r).1
    have s2 := fun x' y' => (facts2 (f x' y').r).2.1
    have s3 := fun x' y' => (facts2 (f x' y').r).2.2.1
    have s4 := fun x' y' => (facts2 (f x' y').r).2.2.2
    have HB2 := hide f
    clear f
    obtain ⟨u1, u2, -, -⟩ := facts2 HB.out.a
    obtain ⟨u3, u4, -, -⟩ := facts2 HB.out.b
    obtain ⟨u5, u6, u7, u8⟩ := facts2 HB.out.r
    obtain ⟨W, hW⟩ : ∃ W, ((((w.alloc (.cells #[.int .i64 a, .int .i64 b] 74)).alloc (.cells #[.int .i64 c, .int .i64 d] 74)).alloc (.cells #[.int .i64 0, .int .i64 0] 74)).alloc (.cells #[.int .i64 a, .int .i64 b, .int .i64 c, .int .i64 d] 3)) = W := ⟨_, rfl⟩
    rw [hW] at q1 q2 r1 r2 s1 s2 s3 s4 u1 u2 u3 u4 u5 u6 u7 u8 HB HB2 ⊢
    clear hW
    clear q1 q2 r1 r2 s1 s2 s3 s4
    go_wp2_with fail
    obtain ⟨c0, c1, hB4⟩ := stored2 HB.out.r HB.out.bel (by omega) (-p) (p - 1)
    exact bodyPost_ret (v := .agg #[.int .i64 (-p), .int .i64 (p - 1)]) (by simp [results, Tryz.results95, go_sem, c0, c1]) rfl ⟨rfl, hB4⟩
  · have e3 : decide (a < 0) = false := by simp; omega
    have e4 : decide (c < 0) = false := by simp; omega
    rw [show eithZ 16 a b c d = (max a c, arP a b c d - 1) by unfold eithZ; rw [if_neg (by omega), if_pos rfl]]
    generalize arP a b c d = p at *
    go_enter Tryz.func95, Tryz.ntmps95
    go_wp2_with fail
    refine HR.out.mono ?_
    rintro e w2 ⟨rfl, hw2⟩
    have hq := hw2.symm
    subst hq
    clear hw2
    have f := fun x' y' : Int => HB.out.later (bel1 _ (cs x' y'))
    have q1 := fun x' y' => (facts2 (f x' y').a).1
    have q2 := fun x' y' => (facts2 (f x' y').a).2.1
    have r1 := fun x' y' => (facts2 (f x' y').b).1
    have r2 := fun x' y' => (facts2 (f x' y').b).2.1
    have s1 := fun x' y' => (facts2 (f x' y').r).1
    have s2 := fun x' y' => (facts2 (f x' y').r).2.1
    have s3 := fun x' y' => (facts2 (f x' y').r).2.2.1
    have s4 := fun x' y' => (facts2 (f x' y').r).2.2.2
    have HB2 := hide f
    clear f
    obtain ⟨u1, u2, -, -⟩ := facts2 HB.out.a
    obtain ⟨u3, u4, -, -⟩ := facts2 HB.out.b
    obtain ⟨u5, u6, u7, u8⟩ := facts2 HB.out.r
    obtain ⟨W, hW⟩ : ∃ W, ((((w.alloc (.cells #[.int .i64 a, .int .i64 b] 74)).alloc (.cells #[.int .i64 c, .int .i64 d] 74)).alloc (.cells #[.int .i64 0, .int .i64 0] 74)).alloc (.cells #[.int .i64 a, .int .i64 b, .int .i64 c, .int .i64 d] 3)) = W := ⟨_, rfl⟩
    rw [hW] at q1 q2 r1 r2 s1 s2 s3 s4 u1 u2 u3 u4 u5 u6 u7 u8 HB HB2 ⊢
    clear hW
    clear q1 q2 r1 r2 s1 s2 s3 s4
    go_wp2_with fail
    refine (hull2 _ _ _).mono ?_
    rintro e w3 ⟨rfl, hb3⟩
    have HB3 := hide (HB.out.later (bel (bel1 _ _) hb3))
    clear hb3 u1 u2 u3 u4 u5 u6 u7 u8
    obtain ⟨u5, u6, u7, u8⟩ := facts2 HB3.out.r
    obtain ⟨x, hx⟩ : ∃ x, max a c = x := ⟨_, rfl⟩
    obtain ⟨y, hy⟩ : ∃ y, min a c = y := ⟨_, rfl⟩
    rw [hx, hy]
    have HX := hide hx
    clear hx hy
    go_wp2_with fail
    obtain ⟨c0, c1, hB4⟩ := stored2 HB3.out.r HB3.out.bel (by omega) x (p - 1)
    exact bodyPost_ret (v := .agg #[.int .i64 x, .int .i64 (p - 1)]) (by simp [results, Tryz.results95, go_sem, c0, c1]) rfl ⟨by rw [HX.out], hB4⟩

set_option maxRecDepth 100000 in
set_option maxHeartbeats 1000000 in
theorem qbit_17 (a b c d : Int) (w : World) (ha : W32 a) (hb : W32 b) (hc : W32 c) (hd : W32 d) : Calls Tryz.prog 95 #[.int .i64 17, .agg #[.int .i64 a, .int .i64 b], .agg #[.int .i64 c, .int .i64 d]] w fun e w' => e = .returned (.agg #[.int .i64 (eithZ 17 a b c d).1, .int .i64 (eithZ 17 a b c d).2]) ∧ Below w.heap.size w w' := by
  have HB := hide ((B3.start w a b c d 0 0).later (bel1 _ (.cells #[.int .i64 a, .int .i64 b, .int .i64 c, .int .i64 d] 3)))
  have HR0 := room_any _ 4 4 _ _ (lit4 (((w.alloc (cs a b)).alloc (cs c d)).alloc (cs 0 0)) 3 a b c d) (by decide) (by intro x hx; simp at hx; rcases hx with rfl | rfl | rfl | rfl <;> assumption)
  simp only [mxw4, World.size_alloc] at HR0
  have HR := hide HR0
  clear HR0
  have hP := (arP_bd ha hb hc hd).2
  rcases (show a < 0 ∨ (0 ≤ a ∧ c < 0) ∨ (0 ≤ a ∧ 0 ≤ c) by omega) with g | g | g
  · have e3 : decide (a < 0) = true := by simp; omega
    rw [show eithZ 17 a b c d = (-arP a b c d, arP a b c d - 1) by unfold eithZ; rw [if_pos (by omega)]]
    generalize arP a b c d = p at *
    go_enter Tryz.func95, Tryz.ntmps95
    go_wp2_with fail
    refine HR.out.mono ?_
    rintro e w2 ⟨rfl, hw2⟩
    have hq := hw2.symm
    subst hq
    clear hw2
    have f := fun x' y' : Int => HB.out.later (bel1 _ (cs x' y'))
    have q1 := fun x' y' => (facts2 (f x' y').a).1
    have q2 := fun x' y' => (facts2 (f x' y').a).2.1
    have r1 := fun x' y' => (facts2 (f x' y').b).1
    have r2 := fun x' y' => (facts2 (f x' y').b).2.1
    have s1 := fun x' y' => (facts2 (f x' y').r).1
    have s2 := fun x' y' => (facts2 (f x' y').r).2.1
    have s3 := fun x' y' => (facts2 (f x' y').r).2.2.1
    have s4 := fun x' y' => (facts2 (f x' y').r).2.2.2
    have HB2 := hide f
    clear f
    obtain ⟨u1, u2, -, -⟩ := facts2 HB.out.a
    obtain ⟨u3, u4, -, -⟩ := facts2 HB.out.b
    obtain ⟨u5, u6, u7, u8⟩ := facts2 HB.out.r
    obtain ⟨W, hW⟩ : ∃ W, ((((w.alloc (.cells #[.int .i64 a, .int .i64 b] 74)).alloc (.cells #[.int .i64 c, .int .i64 d] 74)).alloc (.cells #[.int .i64 0, .int .i64 0] 74)).alloc (.cells #[.int .i64 a, .int .i64 b, .int .i64 c, .int .i64 d] 3)) = W := ⟨_, rfl⟩
    rw [hW] at q1 q2 r1 r2 s1 s2 s3 s4 u1 u2 u3 u4 u5 u6 u7 u8 HB HB2 ⊢
    clear hW
    clear q1 q2 r1 r2 s1 s2 s3 s4
    go_wp2_with fail
    obtain ⟨c0, c1, hB4⟩ := stored2 HB.out.r HB.out.bel (by omega) (-p) (p - 1)
    exact bodyPost_ret (v := .agg #[.int .i64 (-p), .int .i64 (p - 1)]) (by simp [results, Tryz.results95, go_sem, c0, c1]) rfl ⟨rfl, hB4⟩
  · have e3 : decide (a < 0) = false := by simp; omega
    have e4 : decide (c < 0) = true := by simp; omega
    rw [show eithZ 17 a b c d = (-arP a b c d, arP a b c d - 1) by unfold eithZ; rw [if_pos (by omega)]]
    generalize arP a b c d = p at *
    go_enter Tryz.func95, Tryz.ntmps95
    go_wp2_with fail
    refine HR.out.mono ?_
    rintro e w2 ⟨rfl, hw2⟩
    have hq := hw2.symm
    subst hq
    clear hw2
    have f := fun x' y' : Int => HB.out.later (bel1 _ (cs x' y'))
    have q1 := fun x' y' => (facts2 (f x' y').a).1
    have q2 := fun x' y' => (facts2 (f x' y').a).2.1
    have r1 := fun x' y' => (facts2 (f x' y').b).1
    have r2 := fun x' y' => (facts2 (f x' y').b).2.1
    have s1 := fun x' y' => (facts2 (f x' y').r).1
    have s2 := fun x' y' => (facts2 (f x' y').r).2.1
    have s3 := fun x' y' => (facts2 (f x' y').r).2.2.1
    have s4 := fun x' y' => (facts2 (f x' y').r).2.2.2
    have HB2 := hide f
    clear f
    obtain ⟨u1, u2, -, -⟩ := facts2 HB.out.a
    obtain ⟨u3, u4, -, -⟩ := facts2 HB.out.b
    obtain ⟨u5, u6, u7, u8⟩ := facts2 HB.out.r
    obtain ⟨W, hW⟩ : ∃ W, ((((w.alloc (.cells #[.int .i64 a, .int .i64 b] 74)).alloc (.cells #[.int .i64 c, .int .i64 d] 74)).alloc (.cells #[.int .i64 0, .int .i64 0] 74)).alloc (.cells #[.int .i64 a, .int .i64 b, .int .i64 c, .int .i64 d] 3)) = W := ⟨_, rfl⟩
    rw [hW] at q1 q2 r1 r2 s1 s2 s3 s4 u1 u2 u3 u4 u5 u6 u7 u8 HB HB2 ⊢
    clear hW
    clear q1 q2 r1 r2 s1 s2 s3 s4
    go_wp2_with fail
    obtain ⟨c0, c1, hB4⟩ := stored2 HB.out.r HB.out.bel (by omega) (-p) (p - 1)
    exact bodyPost_ret (v := .agg #[.int .i64 (-p), .int .i64 (p - 1)]) (by simp [results, Tryz.results95, go_sem, c0, c1]) rfl ⟨rfl, hB4⟩
  · have e3 : decide (a < 0) = false := by simp; omega
    have e4 : decide (c < 0) = false := by simp; omega
    rw [show eithZ 17 a b c d = (0, arP a b c d - 1) by unfold eithZ; rw [if_neg (by omega), if_neg (by decide)]]
    generalize arP a b c d = p at *
    go_enter Tryz.func95, Tryz.ntmps95
    go_wp2_with fail
    refine HR.out.mono ?_
    rintro e w2 ⟨rfl, hw2⟩
    have hq := hw2.symm
    subst hq
    clear hw2
    have f := fun x' y' : Int => HB.out.later (bel1 _ (cs x' y'))
    have q1 := fun x' y' => (facts2 (f x' y').a).1
    have q2 := fun x' y' => (facts2 (f x' y').a).2.1
    have r1 := fun x' y' => (facts2 (f x' y').b).1
    have r2 := fun x' y' => (facts2 (f x' y').b).2.1
    have s1 := fun x' y' => (facts2 (f x' y').r).1
    have s2 := fun x' y' => (facts2 (f x' y').r).2.1
    have s3 := fun x' y' => (facts2 (f x' y').r).2.2.1
    have s4 := fun x' y' => (facts2 (f x' y').r).2.2.2
    have HB2 := hide f
    clear f
    obtain ⟨u1, u2, -, -⟩ := facts2 HB.out.a
    obtain ⟨u3, u4, -, -⟩ := facts2 HB.out.b
    obtain ⟨u5, u6, u7, u8⟩ := facts2 HB.out.r
    obtain ⟨W, hW⟩ : ∃ W, ((((w.alloc (.cells #[.int .i64 a, .int .i64 b] 74)).alloc (.cells #[.int .i64 c, .int .i64 d] 74)).alloc (.cells #[.int .i64 0, .int .i64 0] 74)).alloc (.cells #[.int .i64 a, .int .i64 b, .int .i64 c, .int .i64 d] 3)) = W := ⟨_, rfl⟩
    rw [hW] at q1 q2 r1 r2 s1 s2 s3 s4 u1 u2 u3 u4 u5 u6 u7 u8 HB HB2 ⊢
    clear hW
    clear q1 q2 r1 r2 s1 s2 s3 s4
    go_wp2_with fail
    obtain ⟨c0, c1, hB4⟩ := stored2 HB.out.r HB.out.bel (by omega) (0) (p - 1)
    exact bodyPost_ret (v := .agg #[.int .i64 (0), .int .i64 (p - 1)]) (by simp [results, Tryz.results95, go_sem, c0, c1]) rfl ⟨rfl, hB4⟩

end Go.Proofs.YtihbhbeaihdgnaaGreat.Spn
