/-
  The document's own functions of layer 5: ends.
-/
import Derived.Test.YtihbhbeaihdgnaaGreatRGT
namespace Go.Proofs.YtihbhbeaihdgnaaGreat.Spn
open Go.RowKit Go.IntWalk Go.Sort
set_option linter.unusedVariables false

/-- The memory of 'ends'. -/
structure E1 (w W : World) : Prop where
  r : HasC W w.heap.size 74 #[.int .i64 0, .int .i64 0]
  bel : Below w.heap.size w W
theorem E1.later {w W W' : World} (h : E1 w W) (hb : Below W.heap.size W W') : E1 w W' := ⟨h.r.below hb, h.bel.trans (hb.mono h.bel.size)⟩
theorem E1.start (w : World) : E1 w (w.alloc (cs 0 0)) := ⟨HasC.new w 74 #[.int .i64 0, .int .i64 0], bel1 _ _⟩

set_option maxRecDepth 100000 in
set_option maxHeartbeats 4000000 in
theorem qends_any (op x0 y0 x1 y1 x2 y2 : Int) (bb off cap : Nat) (w : World) (hcap : 3 ≤ cap) (hlt : bb < w.heap.size)
    (c0 : w.cell? ⟨bb, off, none⟩ = some (.int .i64 x0)) (c1 : w.cell? ⟨bb, off + 1, none⟩ = some (.int .i64 y0))
    (c2 : w.cell? ⟨bb, off + 2, none⟩ = some (.int .i64 x1)) (c3 : w.cell? ⟨bb, off + 2 + 1, none⟩ = some (.int .i64 y1))
    (c4 : w.cell? ⟨bb, off + 4, none⟩ = some (.int .i64 x2)) (c5 : w.cell? ⟨bb, off + 4 + 1, none⟩ = some (.int .i64 y2)) :
    Calls Tryz.prog 98 #[.int .i64 op, .slice (some ⟨bb, off, none⟩) 3 cap] w fun e w' => e = .returned (.agg #[.int .i64 (valZ op 0 0 [x0, x1, x2]).1, .int .i64 (valZ op 0 0 [y0, y1, y2]).1]) ∧ Below w.heap.size w w' := by
  have HE := hide (E1.start w)
  have HV1 := hide fun W => rvalue_any op 0 0 _ 3 3 _ _ ((lit3 W 3 x0 x1 x2).later (below_drew _))
  have HV2 := hide fun W => rvalue_any op 0 0 _ 3 3 _ _ ((lit3 W 3 y0 y1 y2).later (below_drew _))
  obtain ⟨⟨z1, e1⟩, hz1⟩ : ∃ Z, valZ op 0 0 [x0, x1, x2] = Z := ⟨_, rfl⟩
  obtain ⟨⟨z2, e2⟩, hz2⟩ : ∃ Z, valZ op 0 0 [y0, y1, y2] = Z := ⟨_, rfl⟩
  rw [hz1] at HV1
  rw [hz2] at HV2
  rw [hz1, hz2]
  clear hz1 hz2
  have hkeep : ∀ W, E1 w W → W.cell? ⟨bb, off, none⟩ = some (.int .i64 x0) ∧ W.cell? ⟨bb, off + 1, none⟩ = some (.int .i64 y0) ∧ W.cell? ⟨bb, off + 2, none⟩ = some (.int .i64 x1) ∧ W.cell? ⟨bb, off + 2 + 1, none⟩ = some (.int .i64 y1) ∧ W.cell? ⟨bb, off + 4, none⟩ = some (.int .i64 x2) ∧ W.cell? ⟨bb, off + 4 + 1, none⟩ = some (.int .i64 y2) := fun W h =>
    ⟨(h.bel.cell (p := ⟨bb, off, none⟩) hlt).trans c0, (h.bel.cell (p := ⟨bb, off + 1, none⟩) hlt).trans c1, (h.bel.cell (p := ⟨bb, off + 2, none⟩) hlt).trans c2, (h.bel.cell (p := ⟨bb, off + 2 + 1, none⟩) hlt).trans c3, (h.bel.cell (p := ⟨bb, off + 4, none⟩) hlt).trans c4, (h.bel.cell (p := ⟨bb, off + 4 + 1, none⟩) hlt).trans c5⟩
  have HK := hide hkeep
  clear hkeep c0 c1 c2 c3 c4 c5
  go_enter Tryz.func98, Tryz.ntmps98
  go_wp2_with fail
  obtain ⟨W, hW⟩ : ∃ W, w.alloc (.cells #[.int .i64 0, .int .i64 0] 74) = W := ⟨_, rfl⟩
  rw [hW] at HE ⊢
  clear hW
  obtain ⟨d0, d1, d2, d3, d4, d5⟩ := HK.out _ HE.out
  go_region_held3 (fun w' => w'.cell? ⟨bb, off, none⟩ = some (.int .i64 x0) ∧ w'.cell? ⟨bb, off + 1, none⟩ = some (.int .i64 y0) ∧ w'.cell? ⟨bb, off + 2, none⟩ = some (.int .i64 x1) ∧ w'.cell? ⟨bb, off + 2 + 1, none⟩ = some (.int .i64 y1) ∧ w'.cell? ⟨bb, off + 4, none⟩ = some (.int .i64 x2) ∧ w'.cell? ⟨bb, off + 4 + 1, none⟩ = some (.int .i64 y2))
    (first | exact ⟨d0, d1, d2, d3, d4, d5⟩ | exact HK.out _ (HE.out.later (bel1 _ _)) | exact HK.out _ (HE.out.later (bel (bel1 _ _) (below_drew _))) | go_keep)
    ((go_at_call 93; refine (HV1.out _).mono ?_; rintro e' w2 ⟨rfl, hw2⟩; have hq := hw2.symm; subst hq))
  have HE2 := hide (HE.out.later (bel (bel1 _ (.cells #[.int .i64 x0, .int .i64 x1, .int .i64 x2] 3)) (below_drew _)))
  obtain ⟨W2, hW2⟩ : ∃ W2, (W.alloc (.cells #[.int .i64 x0, .int .i64 x1, .int .i64 x2] 3)).drew = W2 := ⟨_, rfl⟩
  rw [hW2] at HE2 ⊢
  clear hw2 hW2 d0 d1 d2 d3 d4 d5 HE
  rename_i hHeld
  clear hHeld
  obtain ⟨f0, f1, f2, f3, f4, f5⟩ := HK.out _ HE2.out
  go_wp2_with fail
  go_region_held3 (fun w' => w'.cell? ⟨bb, off, none⟩ = some (.int .i64 x0) ∧ w'.cell? ⟨bb, off + 1, none⟩ = some (.int .i64 y0) ∧ w'.cell? ⟨bb, off + 2, none⟩ = some (.int .i64 x1) ∧ w'.cell? ⟨bb, off + 2 + 1, none⟩ = some (.int .i64 y1) ∧ w'.cell? ⟨bb, off + 4, none⟩ = some (.int .i64 x2) ∧ w'.cell? ⟨bb, off + 4 + 1, none⟩ = some (.int .i64 y2))
    (first | exact ⟨f0, f1, f2, f3, f4, f5⟩ | exact HK.out _ (HE2.out.later (bel1 _ _)) | exact HK.out _ (HE2.out.later (bel (bel1 _ _) (below_drew _))) | go_keep)
    ((go_at_call 93; refine (HV2.out _).mono ?_; rintro e' w2 ⟨rfl, hw2⟩; have hq := hw2.symm; subst hq))
  have HE3 := hide (HE2.out.later (bel (bel1 _ (.cells #[.int .i64 y0, .int .i64 y1, .int .i64 y2] 3)) (below_drew _)))
  obtain ⟨W3, hW3⟩ : ∃ W3, (W2.alloc (.cells #[.int .i64 y0, .int .i64 y1, .int .i64 y2] 3)).drew = W3 := ⟨_, rfl⟩
  rw [hW3] at HE3 ⊢
  rename_i hHeld
  clear hHeld
  clear hw2 hW3 f0 f1 f2 f3 f4 f5 HE2
  obtain ⟨s1, s2, s3, s4⟩ := facts2 HE3.out.r
  go_wp2_with fail
  obtain ⟨g0, g1, hB4⟩ := stored2 HE3.out.r HE3.out.bel (by omega) z1 z2
  exact bodyPost_ret (v := .agg #[.int .i64 z1, .int .i64 z2]) (by simp [results, Tryz.results98, go_sem, g0, g1]) rfl ⟨rfl, hB4⟩

end Go.Proofs.YtihbhbeaihdgnaaGreat.Spn

/-
  The document's own functions of layer 5: plain at OpMulS.
-/
namespace Go.Proofs.YtihbhbeaihdgnaaGreat.Spn
open Go.RowKit Go.IntWalk Go.Sort
set_option linter.unusedVariables false
attribute [local go_sem] fld0 fld1

theorem wrap62 {z : Int} (h : -4611686018427387904 ≤ z ∧ z ≤ 4611686018427387904) : IntKind.i64.wrap z = z := by
  rw [IntKind.wrap_i64]
  omega
theorem far1 {W : World} {n i : Nat} {u v x : Value} (hc : W.cell? ⟨n + 1, i, none⟩ = some x) : ((W.setCell ⟨n, 0, none⟩ u).setCell ⟨n, 1, none⟩ v).cell? ⟨n + 1, i, none⟩ = some x := by
  rw [World.cell?_setCell_far _ _ _ _ (by simp), World.cell?_setCell_far _ _ _ _ (by simp)]
  exact hc

set_option maxRecDepth 100000 in
set_option maxHeartbeats 4000000 in
theorem qplain_33_big (k s a b : Int) (bb off cap : Nat) (w : World) (hcap : 1 ≤ cap) (hlt : bb < w.heap.size) (c0 : w.cell? ⟨bb, off, none⟩ = some (.int .i64 a)) (c1 : w.cell? ⟨bb, off + 1, none⟩ = some (.int .i64 b)) (ha : W32 a) (hb : W32 b)
    (M : Int) (hM : max (max (max a b) (-a)) (-b) = M) (hk : 1 ≤ k ∧ k ≤ 4611686018427387904) (hs : 0 ≤ s ∧ s ≤ 62) (hbig : 0 < M ∧ 4611686018427387904 / M < k) :
    Calls Tryz.prog 53 #[.int .i64 33, .int .i64 k, .int .i64 s, .slice (some ⟨bb, off, none⟩) 1 cap] w fun e w' => e = .returned (spV ((0, 0), 13)) ∧ Below w.heap.size w w' := by
  have d0 := (cell_old (o := cs 0 0) (i := off) hlt).trans c0
  have d1 := (cell_old (o := cs 0 0) (i := off + 1) hlt).trans c1
  have HB := hide (B3.start w 0 0 a b k k)
  clear c0 c1
  have HU0 := hull4 (((w.alloc (.cells #[.int .i64 0, .int .i64 0] 74)).alloc (.cells #[.int .i64 a, .int .i64 b] 74)).alloc (.cells #[.int .i64 k, .int .i64 k] 74)) a b (-a) (-b)
  simp only [World.size_alloc] at HU0
  have HU := hide HU0
  clear HU0
  obtain ⟨M', hM'⟩ : ∃ M, min (min (min a b) (-a)) (-b) = M := ⟨_, rfl⟩
  rw [hM, hM'] at HU
  have hMb : 0 ≤ M ∧ M ≤ 2147483648 := by omega
  clear hM hM'
  obtain ⟨hM1, hk1⟩ := hbig
  have e1 : decide (0 < M) = true := by simp; omega
  have e2 : decide (4611686018427387904 / M < k) = true := by simp; omega
  go_enter Tryz.func53, Tryz.ntmps53
  go_wp2_with fail
  refine HU.out.mono ?_
  rintro e w2 ⟨rfl, hb2⟩
  have HB2 := hide (HB.out.later (bel (bel1 _ (.cells #[.int .i64 a, .int .i64 b, .int .i64 (-a), .int .i64 (-b)] 3)) (by simpa using hb2)))
  clear hb2 d0 d1
  obtain ⟨u1, u2, -, -⟩ := facts2 HB2.out.b
  obtain ⟨u5, u6, u7, u8⟩ := facts2 HB2.out.a
  go_wp2_with fail
  obtain ⟨f0, f1, hB4⟩ := stored2 HB2.out.a HB2.out.bel (Nat.le_refl _) 0 0
  exact bodyPost_ret (v := .tuple #[.agg #[.int .i64 0, .int .i64 0], .int .i64 13]) (by simp [results, Tryz.results53, go_sem, f0, f1]) rfl ⟨rfl, hB4⟩

set_option maxRecDepth 100000 in
set_option maxHeartbeats 4000000 in
theorem qplain_33 (k s a b : Int) (bb off cap : Nat) (w : World) (hcap : 1 ≤ cap) (hlt : bb < w.heap.size) (c0 : w.cell? ⟨bb, off, none⟩ = some (.int .i64 a)) (c1 : w.cell? ⟨bb, off + 1, none⟩ = some (.int .i64 b)) (ha : W32 a) (hb : W32 b)
    (M : Int) (hM : max (max (max a b) (-a)) (-b) = M) (hk : 1 ≤ k ∧ k ≤ 4611686018427387904) (hs : 0 ≤ s ∧ s ≤ 62) (hbig : ¬ (0 < M ∧ 4611686018427387904 / M < k)) (hpa : -4611686018427387904 ≤ a * k ∧ a * k ≤ 4611686018427387904) (hpb : -4611686018427387904 ≤ b * k ∧ b * k ≤ 4611686018427387904) :
    Calls Tryz.prog 53 #[.int .i64 33, .int .i64 k, .int .i64 s, .slice (some ⟨bb, off, none⟩) 1 cap] w fun e w' => e = .returned (spV ((a * k / 2 ^ s.toNat, b * k / 2 ^ s.toNat), 0)) ∧ Below w.heap.size w w' := by
  have d0 := (cell_old (o := cs 0 0) (i := off) hlt).trans c0
  have d1 := (cell_old (o := cs 0 0) (i := off + 1) hlt).trans c1
  have HB := hide (B3.start w 0 0 a b k k)
  clear c0 c1
  have HU0 := hull4 (((w.alloc (.cells #[.int .i64 0, .int .i64 0] 74)).alloc (.cells #[.int .i64 a, .int .i64 b] 74)).alloc (.cells #[.int .i64 k, .int .i64 k] 74)) a b (-a) (-b)
  simp only [World.size_alloc] at HU0
  have HU := hide HU0
  clear HU0
  obtain ⟨M', hM'⟩ : ∃ M, min (min (min a b) (-a)) (-b) = M := ⟨_, rfl⟩
  rw [hM, hM'] at HU
  have hMb : 0 ≤ M ∧ M ≤ 2147483648 := by omega
  clear hM hM'
  have hp := pow_bd s.toNat 62 (by omega)
  have HP := fun w => hide (rpower_any s w (by omega))
  have wa : IntKind.i64.wrap (a * k) = a * k := wrap62 hpa
  have wb : IntKind.i64.wrap (b * k) = b * k := wrap62 hpb
  have HF := hide fun (z : Int) (W : World) (hz : z = IntKind.i64.wrap (a * k) ∨ z = IntKind.i64.wrap (b * k)) => rfloor_any z (2 ^ s.toNat) W (by rcases hz with rfl | rfl <;> first | (rw [wa]; assumption) | (rw [wb]; assumption)) (by omega)
  have WA := hide wa
  have WB := hide wb
  clear wa wb
  obtain ⟨p, hpp⟩ : ∃ p, (2 : Int) ^ s.toNat = p := ⟨_, rfl⟩
  rw [hpp] at HP HF hp ⊢
  clear hpp
  rcases (show M = 0 ∨ (1 ≤ M ∧ k ≤ 4611686018427387904 / M) by omega) with rfl | ⟨hM1, hk1⟩
  · clear hbig hMb
    go_enter Tryz.func53, Tryz.ntmps53
    go_wp2_with fail
    refine HU.out.mono ?_
    rintro e w2 ⟨rfl, hb2⟩
    have HB2 := hide (HB.out.later (bel (bel1 _ (.cells #[.int .i64 a, .int .i64 b, .int .i64 (-a), .int .i64 (-b)] 3)) (by simpa using hb2)))
    clear hb2 d0 d1
    obtain ⟨u1, u2, -, -⟩ := facts2 HB2.out.b
    obtain ⟨u5, u6, u7, u8⟩ := facts2 HB2.out.a
    go_wp2_with fail
    go_region_held3 (fun w' => w'.cell? ⟨w.heap.size + 1, 0, none⟩ = some (.int .i64 a) ∧ w'.cell? ⟨w.heap.size + 1, 1, none⟩ = some (.int .i64 b))
      (first | exact ⟨u1, u2⟩ | exact ⟨far1 u1, far1 u2⟩ | go_keep)
      ((first
        | (go_at_call 97; refine (HP _).out.mono ?_; rintro e' w' ⟨rfl, hw'⟩; have hq := hw'.symm; subst hq)
        | (go_at_call 96; refine (HF.out _ _ (by first | exact .inl rfl | exact .inr rfl)).mono ?_; rintro e' w' ⟨rfl, hw'⟩; have hq := hw'.symm; subst hq)))
    all_goals
      rename_i hHeld
      clear hHeld
      rw [WA.out, WB.out]
      go_wp2_with fail
      obtain ⟨f0, f1, hB4⟩ := stored2 HB2.out.a HB2.out.bel (Nat.le_refl _) (a * k / p) (b * k / p)
      exact bodyPost_ret (v := .tuple #[.agg #[.int .i64 (a * k / p), .int .i64 (b * k / p)], .int .i64 0]) (by simp [results, Tryz.results53, go_sem, f0, f1]) rfl ⟨rfl, bel hB4 (below_drew _)⟩
  · have e1 : decide (0 < M) = true := by simp; omega
    have e2 : decide (4611686018427387904 / M < k) = false := by simp; omega
    clear hbig
    go_enter Tryz.func53, Tryz.ntmps53
    go_wp2_with fail
    refine HU.out.mono ?_
    rintro e w2 ⟨rfl, hb2⟩
    have HB2 := hide (HB.out.later (bel (bel1 _ (.cells #[.int .i64 a, .int .i64 b, .int .i64 (-a), .int .i64 (-b)] 3)) (by simpa using hb2)))
    clear hb2 d0 d1
    obtain ⟨u1, u2, -, -⟩ := facts2 HB2.out.b
    obtain ⟨u5, u6, u7, u8⟩ := facts2 HB2.out.a
    go_wp2_with fail
    go_region_held3 (fun w' => w'.cell? ⟨w.heap.size + 1, 0, none⟩ = some (.int .i64 a) ∧ w'.cell? ⟨w.heap.size + 1, 1, none⟩ = some (.int .i64 b))
      (first | exact ⟨u1, u2⟩ | exact ⟨far1 u1, far1 u2⟩ | go_keep)
      ((first
        | (go_at_call 97; refine (HP _).out.mono ?_; rintro e' w' ⟨rfl, hw'⟩; have hq := hw'.symm; subst hq)
        | (go_at_call 96; refine (HF.out _ _ (by first | exact .inl rfl | exact .inr rfl)).mono ?_; rintro e' w' ⟨rfl, hw'⟩; have hq := hw'.symm; subst hq)))
    all_goals
      rename_i hHeld
      clear hHeld
      rw [WA.out, WB.out]
      go_wp2_with fail
      obtain ⟨f0, f1, hB4⟩ := stored2 HB2.out.a HB2.out.bel (Nat.le_refl _) (a * k / p) (b * k / p)
      exact bodyPost_ret (v := .tuple #[.agg #[.int .i64 (a * k / p), .int .i64 (b * k / p)], .int .i64 0]) (by simp [results, Tryz.results53, go_sem, f0, f1]) rfl ⟨rfl, bel hB4 (below_drew _)⟩

end Go.Proofs.YtihbhbeaihdgnaaGreat.Spn

/-
  The document's own functions of layer 5: plain, of two and of three spans.
-/
namespace Go.Proofs.YtihbhbeaihdgnaaGreat.Spn
open Go.RowKit Go.IntWalk Go.Sort
set_option linter.unusedVariables false
attribute [local go_sem] fld0 fld1

set_option maxRecDepth 100000 in
set_option maxHeartbeats 2000000 in
theorem qplain_26 (k s a b c d e f : Int) (bb off cap : Nat) (w : World) (hcap : 3 ≤ cap) (hlt : bb < w.heap.size) (c0 : w.cell? ⟨bb, off, none⟩ = some (.int .i64 a)) (c1 : w.cell? ⟨bb, off + 1, none⟩ = some (.int .i64 b))
    (c2 : w.cell? ⟨bb, off + 2, none⟩ = some (.int .i64 c)) (c3 : w.cell? ⟨bb, off + 2 + 1, none⟩ = some (.int .i64 d))
    (c4 : w.cell? ⟨bb, off + 4, none⟩ = some (.int .i64 e)) (c5 : w.cell? ⟨bb, off + 4 + 1, none⟩ = some (.int .i64 f)) :
    Calls Tryz.prog 53 #[.int .i64 26, .int .i64 k, .int .i64 s, .slice (some ⟨bb, off, none⟩) 3 cap] w fun r w' => r = .returned (spV (((valZ 26 0 0 [a, c, e]).1, (valZ 26 0 0 [b, d, f]).1), 0)) ∧ Below w.heap.size w w' := by
  have d0 := (cell_old (o := cs 0 0) (i := off) hlt).trans c0
  have d1 := (cell_old (o := cs 0 0) (i := off + 1) hlt).trans c1
  have HB := hide (B3.start w 0 0 a b k k)
  have hkeep : ∀ W, B3 w W 0 0 a b k k → W.cell? ⟨bb, off, none⟩ = some (.int .i64 a) ∧ W.cell? ⟨bb, off + 1, none⟩ = some (.int .i64 b) ∧ W.cell? ⟨bb, off + 2, none⟩ = some (.int .i64 c) ∧ W.cell? ⟨bb, off + 2 + 1, none⟩ = some (.int .i64 d) ∧ W.cell? ⟨bb, off + 4, none⟩ = some (.int .i64 e) ∧ W.cell? ⟨bb, off + 4 + 1, none⟩ = some (.int .i64 f) := fun W h => ⟨(h.bel.cell (p := ⟨bb, off, none⟩) hlt).trans c0, (h.bel.cell (p := ⟨bb, off + 1, none⟩) hlt).trans c1, (h.bel.cell (p := ⟨bb, off + 2, none⟩) hlt).trans c2, (h.bel.cell (p := ⟨bb, off + 2 + 1, none⟩) hlt).trans c3, (h.bel.cell (p := ⟨bb, off + 4, none⟩) hlt).trans c4, (h.bel.cell (p := ⟨bb, off + 4 + 1, none⟩) hlt).trans c5⟩
  have HK := hide hkeep
  clear hkeep c0 c1 c2 c3 c4 c5
  have HE := hide fun (W : World) (h : B3 w W 0 0 a b k k) => qends_any 26 a b c d e f bb off cap W hcap (by have := h.bel.size; omega) (HK.out W h).1 (HK.out W h).2.1 (HK.out W h).2.2.1 (HK.out W h).2.2.2.1 (HK.out W h).2.2.2.2.1 (HK.out W h).2.2.2.2.2
  obtain ⟨x, hx⟩ : ∃ x, (valZ 26 0 0 [a, c, e]).1 = x := ⟨_, rfl⟩
  obtain ⟨y, hy⟩ : ∃ y, (valZ 26 0 0 [b, d, f]).1 = y := ⟨_, rfl⟩
  rw [hx, hy] at HE ⊢
  clear hx hy
  go_enter Tryz.func53, Tryz.ntmps53
  go_wp2_with fail
  refine (HE.out _ HB.out).mono ?_
  rintro e' w2 ⟨rfl, hb2⟩
  have HB2 := hide (HB.out.later hb2)
  clear hb2
  obtain ⟨u5, u6, u7, u8⟩ := facts2 HB2.out.a
  go_wp2_with fail
  obtain ⟨f0, f1, hB4⟩ := stored2 HB2.out.a HB2.out.bel (Nat.le_refl _) x y
  exact bodyPost_ret (v := .tuple #[.agg #[.int .i64 x, .int .i64 y], .int .i64 0]) (by simp [results, Tryz.results53, go_sem, f0, f1]) rfl ⟨rfl, hB4⟩

set_option maxRecDepth 100000 in
set_option maxHeartbeats 2000000 in
theorem qplain_27 (k s a b c d e f : Int) (bb off cap : Nat) (w : World) (hcap : 3 ≤ cap) (hlt : bb < w.heap.size) (c0 : w.cell? ⟨bb, off, none⟩ = some (.int .i64 a)) (c1 : w.cell? ⟨bb, off + 1, none⟩ = some (.int .i64 b))
    (c2 : w.cell? ⟨bb, off + 2, none⟩ = some (.int .i64 c)) (c3 : w.cell? ⟨bb, off + 2 + 1, none⟩ = some (.int .i64 d))
    (c4 : w.cell? ⟨bb, off + 4, none⟩ = some (.int .i64 e)) (c5 : w.cell? ⟨bb, off + 4 + 1, none⟩ = some (.int .i64 f)) :
    Calls Tryz.prog 53 #[.int .i64 27, .int .i64 k, .int .i64 s, .slice (some ⟨bb, off, none⟩) 3 cap] w fun r w' => r = .returned (spV (((valZ 27 0 0 [a, c, e]).1, (valZ 27 0 0 [b, d, f]).1), 0)) ∧ Below w.heap.size w w' := by
  have d0 := (cell_old (o := cs 0 0) (i := off) hlt).trans c0
  have d1 := (cell_old (o := cs 0 0) (i := off + 1) hlt).trans c1
  have HB := hide (B3.start w 0 0 a b k k)
  have hkeep : ∀ W, B3 w W 0 0 a b k k → W.cell? ⟨bb, off, none⟩ = some (.int .i64 a) ∧ W.cell? ⟨bb, off + 1, none⟩ = some (.int .i64 b) ∧ W.cell? ⟨bb, off + 2, none⟩ = some (.int .i64 c) ∧ W.cell? ⟨bb, off + 2 + 1, none⟩ = some (.int .i64 d) ∧ W.cell? ⟨bb, off + 4, none⟩ = some (.int .i64 e) ∧ W.cell? ⟨bb, off + 4 + 1, none⟩ = some (.int .i64 f) := fun W h => ⟨(h.bel.cell (p := ⟨bb, off, none⟩) hlt).trans c0, (h.bel.cell (p := ⟨bb, off + 1, none⟩) hlt).trans c1, (h.bel.cell (p := ⟨bb, off + 2, none⟩) hlt).trans c2, (h.bel.cell (p := ⟨bb, off + 2 + 1, none⟩) hlt).trans c3, (h.bel.cell (p := ⟨bb, off + 4, none⟩) hlt).trans c4, (h.bel.cell (p := ⟨bb, off + 4 + 1, none⟩) hlt).trans c5⟩
  have HK := hide hkeep
  clear hkeep c0 c1 c2 c3 c4 c5
  have HE := hide fun (W : World) (h : B3 w W 0 0 a b k k) => qends_any 27 a b c d e f bb off cap W hcap (by have := h.bel.size; omega) (HK.out W h).1 (HK.out W h).2.1 (HK.out W h).2.2.1 (HK.out W h).2.2.2.1 (HK.out W h).2.2.2.2.1 (HK.out W h).2.2.2.2.2
  obtain ⟨x, hx⟩ : ∃ x, (valZ 27 0 0 [a, c, e]).1 = x := ⟨_, rfl⟩
  obtain ⟨y, hy⟩ : ∃ y, (valZ 27 0 0 [b, d, f]).1 = y := ⟨_, rfl⟩
  rw [hx, hy] at HE ⊢
  clear hx hy
  go_enter Tryz.func53, Tryz.ntmps53
  go_wp2_with fail
  refine (HE.out _ HB.out).mono ?_
  rintro e' w2 ⟨rfl, hb2⟩
  have HB2 := hide (HB.out.later hb2)
  clear hb2
  obtain ⟨u5, u6, u7, u8⟩ := facts2 HB2.out.a
  go_wp2_with fail
  obtain ⟨f0, f1, hB4⟩ := stored2 HB2.out.a HB2.out.bel (Nat.le_refl _) x y
  exact bodyPost_ret (v := .tuple #[.agg #[.int .i64 x, .int .i64 y], .int .i64 0]) (by simp [results, Tryz.results53, go_sem, f0, f1]) rfl ⟨rfl, hB4⟩

set_option maxRecDepth 100000 in
set_option maxHeartbeats 2000000 in
theorem qplain_28 (k s a b c d e f : Int) (bb off cap : Nat) (w : World) (hcap : 3 ≤ cap) (hlt : bb < w.heap.size) (c0 : w.cell? ⟨bb, off, none⟩ = some (.int .i64 a)) (c1 : w.cell? ⟨bb, off + 1, none⟩ = some (.int .i64 b))
    (c2 : w.cell? ⟨bb, off + 2, none⟩ = some (.int .i64 c)) (c3 : w.cell? ⟨bb, off + 2 + 1, none⟩ = some (.int .i64 d))
    (c4 : w.cell? ⟨bb, off + 4, none⟩ = some (.int .i64 e)) (c5 : w.cell? ⟨bb, off + 4 + 1, none⟩ = some (.int .i64 f)) :
    Calls Tryz.prog 53 #[.int .i64 28, .int .i64 k, .int .i64 s, .slice (some ⟨bb, off, none⟩) 3 cap] w fun r w' => r = .returned (spV ((if hasB a b 0 = true then (if a = 0 ∧ b = 0 then (e, f) else (min (min (min c d) e) f, max (max (max c d) e) f)) else (c, d)), 0)) ∧ Below w.heap.size w w' := by
  have d0 := (cell_old (o := cs 0 0) (i := off) hlt).trans c0
  have d1 := (cell_old (o := cs 0 0) (i := off + 1) hlt).trans c1
  have HB := hide (B3.start w 0 0 a b k k)
  have hkeep : ∀ W, B3 w W 0 0 a b k k → W.cell? ⟨bb, off, none⟩ = some (.int .i64 a) ∧ W.cell? ⟨bb, off + 1, none⟩ = some (.int .i64 b) ∧ W.cell? ⟨bb, off + 2, none⟩ = some (.int .i64 c) ∧ W.cell? ⟨bb, off + 2 + 1, none⟩ = some (.int .i64 d) ∧ W.cell? ⟨bb, off + 4, none⟩ = some (.int .i64 e) ∧ W.cell? ⟨bb, off + 4 + 1, none⟩ = some (.int .i64 f) := fun W h => ⟨(h.bel.cell (p := ⟨bb, off, none⟩) hlt).trans c0, (h.bel.cell (p := ⟨bb, off + 1, none⟩) hlt).trans c1, (h.bel.cell (p := ⟨bb, off + 2, none⟩) hlt).trans c2, (h.bel.cell (p := ⟨bb, off + 2 + 1, none⟩) hlt).trans c3, (h.bel.cell (p := ⟨bb, off + 4, none⟩) hlt).trans c4, (h.bel.cell (p := ⟨bb, off + 4 + 1, none⟩) hlt).trans c5⟩
  have HK := hide hkeep
  clear hkeep c0 c1 c2 c3 c4 c5
  have HH := fun w => hide (rhas_any a b 0 w)
  cases h0 : hasB a b 0
  · rw [h0] at HH
    rw [if_neg (by simp)]
    go_enter Tryz.func53, Tryz.ntmps53
    go_wp2_with fail
    refine (HH _).out.mono ?_
    rintro e' w2 ⟨rfl, hb2⟩
    have HB2 := hide (HB.out.later hb2)
    clear hb2 d0 d1
    obtain ⟨u1, u2, -, -⟩ := facts2 HB2.out.b
    obtain ⟨u5, u6, u7, u8⟩ := facts2 HB2.out.a
    obtain ⟨d0, d1, d2, d3, d4, d5⟩ := HK.out _ HB2.out
    go_wp2_with fail
    obtain ⟨f0, f1, hB4⟩ := stored2 HB2.out.a HB2.out.bel (Nat.le_refl _) c d
    exact bodyPost_ret (v := .tuple #[.agg #[.int .i64 c, .int .i64 d], .int .i64 0]) (by simp [results, Tryz.results53, go_sem, f0, f1]) rfl ⟨rfl, hB4⟩
  · rw [h0] at HH
    rw [if_pos rfl]
    by_cases h1 : a = 0
    · subst h1
      by_cases h2 : b = 0
      · subst h2
        rw [if_pos ⟨rfl, rfl⟩]
        go_enter Tryz.func53, Tryz.ntmps53
        go_wp2_with fail
        refine (HH _).out.mono ?_
        rintro e' w2 ⟨rfl, hb2⟩
        have HB2 := hide (HB.out.later hb2)
        clear hb2 d0 d1
        obtain ⟨u1, u2, -, -⟩ := facts2 HB2.out.b
        obtain ⟨u5, u6, u7, u8⟩ := facts2 HB2.out.a
        obtain ⟨d0, d1, d2, d3, d4, d5⟩ := HK.out _ HB2.out
        go_wp2_with fail
        obtain ⟨f0, f1, hB4⟩ := stored2 HB2.out.a HB2.out.bel (Nat.le_refl _) e f
        exact bodyPost_ret (v := .tuple #[.agg #[.int .i64 e, .int .i64 f], .int .i64 0]) (by simp [results, Tryz.results53, go_sem, f0, f1]) rfl ⟨rfl, hB4⟩
      · have e2 : (b == 0) = false := by simp [h2]
        rw [if_neg (by omega)]
        clear h2
        have HU := fun W => hide (hull_any _ 4 4 _ _ ((lit4 W 3 c d e f).later (below_drew _)) (by decide) (by decide))
        simp only [(h4 c d e f).1, (h4 c d e f).2] at HU
        obtain ⟨x, hx⟩ : ∃ x, min (min (min c d) e) f = x := ⟨_, rfl⟩
        obtain ⟨y, hy⟩ : ∃ y, max (max (max c d) e) f = y := ⟨_, rfl⟩
        rw [hx, hy] at HU ⊢
        clear hx hy
        go_enter Tryz.func53, Tryz.ntmps53
        go_wp2_with fail
        refine (HH _).out.mono ?_
        rintro e' w2 ⟨rfl, hb2⟩
        have HB2 := hide (HB.out.later hb2)
        clear hb2 d0 d1
        obtain ⟨u1, u2, -, -⟩ := facts2 HB2.out.b
        obtain ⟨u5, u6, u7, u8⟩ := facts2 HB2.out.a
        obtain ⟨d0, d1, d2, d3, d4, d5⟩ := HK.out _ HB2.out
        go_wp2_with fail
        have hltW : w.heap.size < w2.heap.size := HB2.out.a.lt
        go_region_held3 (fun w' => w'.cell? ⟨bb, off + 2, none⟩ = some (.int .i64 c) ∧ w'.cell? ⟨bb, off + 2 + 1, none⟩ = some (.int .i64 d) ∧ w'.cell? ⟨bb, off + 4, none⟩ = some (.int .i64 e) ∧ w'.cell? ⟨bb, off + 4 + 1, none⟩ = some (.int .i64 f))
          (first | exact ⟨d2, d3, d4, d5⟩ | exact ⟨t2, t3, t4, t5⟩ | exact (HK.out _ (HB2.out.later (bel1 _ _))).2.2 | exact (HK.out _ (HB2.out.later (bel (bel1 _ _) (below_drew _)))).2.2 | exact ⟨far2 hlt (Nat.le_refl _) t2, far2 hlt (Nat.le_refl _) t3, far2 hlt (Nat.le_refl _) t4, far2 hlt (Nat.le_refl _) t5⟩ | go_keep)
          ((go_at_call 91; refine (HU _).out.mono ?_; rintro e' w3 ⟨rfl, hb3⟩; have HB3 := hide (HB2.out.later (bel (bel (bel1 _ _) (below_drew _)) hb3)); obtain ⟨-, -, t2, t3, t4, t5⟩ := HK.out _ HB3.out; obtain ⟨s1, s2, s3, s4⟩ := facts2 HB3.out.a))
        all_goals
          go_wp2_with fail
          obtain ⟨f0, f1, hB4⟩ := stored2 HB3.out.a HB3.out.bel (Nat.le_refl _) x y
          exact bodyPost_ret (v := .tuple #[.agg #[.int .i64 x, .int .i64 y], .int .i64 0]) (by simp [results, Tryz.results53, go_sem, f0, f1]) rfl ⟨rfl, hB4⟩
    · have e1 : (a == 0) = false := by simp [h1]
      rw [if_neg (by omega)]
      clear h1
      have HU := fun W => hide (hull_any _ 4 4 _ _ ((lit4 W 3 c d e f).later (below_drew _)) (by decide) (by decide))
      simp only [(h4 c d e f).1, (h4 c d e f).2] at HU
      obtain ⟨x, hx⟩ : ∃ x, min (min (min c d) e) f = x := ⟨_, rfl⟩
      obtain ⟨y, hy⟩ : ∃ y, max (max (max c d) e) f = y := ⟨_, rfl⟩
      rw [hx, hy] at HU ⊢
      clear hx hy
      go_enter Tryz.func53, Tryz.ntmps53
      go_wp2_with fail
      refine (HH _).out.mono ?_
      rintro e' w2 ⟨rfl, hb2⟩
      have HB2 := hide (HB.out.later hb2)
      clear hb2 d0 d1
      obtain ⟨u1, u2, -, -⟩ := facts2 HB2.out.b
      obtain ⟨u5, u6, u7, u8⟩ := facts2 HB2.out.a
      obtain ⟨d0, d1, d2, d3, d4, d5⟩ := HK.out _ HB2.out
      go_wp2_with fail
      have hltW : w.heap.size < w2.heap.size := HB2.out.a.lt
      go_region_held3 (fun w' => w'.cell? ⟨bb, off + 2, none⟩ = some (.int .i64 c) ∧ w'.cell? ⟨bb, off + 2 + 1, none⟩ = some (.int .i64 d) ∧ w'.cell? ⟨bb, off + 4, none⟩ = some (.int .i64 e) ∧ w'.cell? ⟨bb, off + 4 + 1, none⟩ = some (.int .i64 f))
        (first | exact ⟨d2, d3, d4, d5⟩ | exact ⟨t2, t3, t4, t5⟩ | exact (HK.out _ (HB2.out.later (bel1 _ _))).2.2 | exact (HK.out _ (HB2.out.later (bel (bel1 _ _) (below_drew _)))).2.2 | exact ⟨far2 hlt (Nat.le_refl _) t2, far2 hlt (Nat.le_refl _) t3, far2 hlt (Nat.le_refl _) t4, far2 hlt (Nat.le_refl _) t5⟩ | go_keep)
        ((go_at_call 91; refine (HU _).out.mono ?_; rintro e' w3 ⟨rfl, hb3⟩; have HB3 := hide (HB2.out.later (bel (bel (bel1 _ _) (below_drew _)) hb3)); obtain ⟨-, -, t2, t3, t4, t5⟩ := HK.out _ HB3.out; obtain ⟨s1, s2, s3, s4⟩ := facts2 HB3.out.a))
      all_goals
        go_wp2_with fail
        obtain ⟨f0, f1, hB4⟩ := stored2 HB3.out.a HB3.out.bel (Nat.le_refl _) x y
        exact bodyPost_ret (v := .tuple #[.agg #[.int .i64 x, .int .i64 y], .int .i64 0]) (by simp [results, Tryz.results53, go_sem, f0, f1]) rfl ⟨rfl, hB4⟩

set_option maxRecDepth 100000 in
set_option maxHeartbeats 2000000 in
theorem qplain_two (k s a b c d : Int) (bb off cap : Nat) (w : World) (hcap : 2 ≤ cap) (hlt : bb < w.heap.size) (c0 : w.cell? ⟨bb, off, none⟩ = some (.int .i64 a)) (c1 : w.cell? ⟨bb, off + 1, none⟩ = some (.int .i64 b))
    (c2 : w.cell? ⟨bb, off + 2, none⟩ = some (.int .i64 c)) (c3 : w.cell? ⟨bb, off + 2 + 1, none⟩ = some (.int .i64 d)) (op : Int) (Z : (Int × Int) × Int) (ho : 8 ≤ op ∧ op ≤ 25)
    (H : ∀ W, Calls Tryz.prog 99 #[.int .i64 op, .agg #[.int .i64 a, .int .i64 b], .agg #[.int .i64 c, .int .i64 d]] W fun r w' => r = .returned (spV Z) ∧ Below W.heap.size W w') :
    Calls Tryz.prog 53 #[.int .i64 op, .int .i64 k, .int .i64 s, .slice (some ⟨bb, off, none⟩) 2 cap] w fun r w' => r = .returned (spV Z) ∧ Below w.heap.size w w' := by
  have d0 := (cell_old (o := cs 0 0) (i := off) hlt).trans c0
  have d1 := (cell_old (o := cs 0 0) (i := off + 1) hlt).trans c1
  have HB := hide (B3.start w 0 0 a b k k)
  have hkeep : ∀ W, B3 w W 0 0 a b k k → W.cell? ⟨bb, off, none⟩ = some (.int .i64 a) ∧ W.cell? ⟨bb, off + 1, none⟩ = some (.int .i64 b) ∧ W.cell? ⟨bb, off + 2, none⟩ = some (.int .i64 c) ∧ W.cell? ⟨bb, off + 2 + 1, none⟩ = some (.int .i64 d) := fun W h => ⟨(h.bel.cell (p := ⟨bb, off, none⟩) hlt).trans c0, (h.bel.cell (p := ⟨bb, off + 1, none⟩) hlt).trans c1, (h.bel.cell (p := ⟨bb, off + 2, none⟩) hlt).trans c2, (h.bel.cell (p := ⟨bb, off + 2 + 1, none⟩) hlt).trans c3⟩
  have HK := hide hkeep
  clear hkeep c0 c1 c2 c3
  have HP := fun W => hide (H W)
  clear H
  obtain ⟨⟨x, y⟩, e⟩ := Z
  have n5 : (op == 5) = false := by simp; omega
  have n6 : (op == 6) = false := by simp; omega
  have n7 : (op == 7) = false := by simp; omega
  have n29 : (op == 29) = false := by simp; omega
  have n30 : (op == 30) = false := by simp; omega
  have n31 : (op == 31) = false := by simp; omega
  have n32 : (op == 32) = false := by simp; omega
  have n33 : (op == 33) = false := by simp; omega
  have n26 : (op == 26) = false := by simp; omega
  have n27 : (op == 27) = false := by simp; omega
  have n28 : (op == 28) = false := by simp; omega
  go_enter Tryz.func53, Tryz.ntmps53
  go_wp2_with fail
  obtain ⟨W, hW⟩ : ∃ W, ((w.alloc (.cells #[.int .i64 0, .int .i64 0] 74)).alloc (.cells #[.int .i64 a, .int .i64 b] 74)).alloc (.cells #[.int .i64 k, .int .i64 k] 74) = W := ⟨_, rfl⟩
  rw [hW] at HB ⊢
  clear hW
  clear d0 d1
  obtain ⟨d0, d1, d2, d3⟩ := HK.out _ HB.out
  obtain ⟨u1, u2, -, -⟩ := facts2 HB.out.b
  go_region_held3 (fun w' => w'.cell? ⟨bb, off + 2, none⟩ = some (.int .i64 c) ∧ w'.cell? ⟨bb, off + 2 + 1, none⟩ = some (.int .i64 d) ∧ w'.cell? ⟨w.heap.size + 1, 0, none⟩ = some (.int .i64 a) ∧ w'.cell? ⟨w.heap.size + 1, 1, none⟩ = some (.int .i64 b))
    (first | exact ⟨d2, d3, u1, u2⟩ | exact ⟨t2, t3, v1, v2⟩ | exact ⟨far2 hlt (Nat.le_refl _) t2, far2 hlt (Nat.le_refl _) t3, far1 v1, far1 v2⟩ | go_keep)
    ((go_at_call 99; refine (HP _).out.mono ?_; rintro e' w3 ⟨rfl, hb3⟩; have HB3 := hide (HB.out.later (bel (below_drew _) hb3)); obtain ⟨-, -, t2, t3⟩ := HK.out _ HB3.out; obtain ⟨v1, v2, -, -⟩ := facts2 HB3.out.b; obtain ⟨s1, s2, s3, s4⟩ := facts2 HB3.out.a))
  all_goals
    go_wp2_with fail
    obtain ⟨f0, f1, hB4⟩ := stored2 HB3.out.a HB3.out.bel (Nat.le_refl _) x y
    exact bodyPost_ret (v := .tuple #[.agg #[.int .i64 x, .int .i64 y], .int .i64 e]) (by simp [results, Tryz.results53, go_sem, f0, f1]) rfl ⟨rfl, hB4⟩

end Go.Proofs.YtihbhbeaihdgnaaGreat.Spn
