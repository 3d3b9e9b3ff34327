/-
  The document's own functions of layer 5: plain at OpMulS.
-/
import Derived.Test.YtbandppkhknaoaaQc2
namespace Go.Proofs.Ytbandppkhknaoaa
open Go.RowKit Go.IntWalk Go.Sort
set_option linter.unusedVariables false
attribute [local go_sem] fld0 fld1

theorem wrap62 {z : Int} (h : -4611686018427387904 ≤ z ∧ z ≤ 4611686018427387904) : IntKind.i64.wrap z = z := by
  rw [IntKind.wrap_i64]
  omega
theorem far1 {W : World} {n i : Nat} {u v x : Value} (hc : W.cell? ⟨n + 1, i, none⟩ = some x) : ((W.setCell ⟨n, 0, none⟩ u).setCell ⟨n, 1, none⟩ v).cell? ⟨n + 1, i, none⟩ = some x := by
  rw [World.cell?_setCell_far _ _ _ _ (by simp), World.cell?_setCell_far _ _ _ _ (by simp)]
  exact hc

set_option maxRecDepth 100000 in
set_option maxHeartbeats 4000000 in
theorem qplain_33_big (k s a b : Int) (bb off cap : Nat) (w : World) (hcap : 1 ≤ cap) (hlt : bb < w.heap.size) (c0 : w.cell? ⟨bb, off, none⟩ = some (.int .i64 a)) (c1 : w.cell? ⟨bb, off + 1, none⟩ = some (.int .i64 b)) (ha : W32 a) (hb : W32 b)
    (M : Int) (hM : max (max (max a b) (-a)) (-b) = M) (hk : 1 ≤ k ∧ k ≤ 4611686018427387904) (hs : 0 ≤ s ∧ s ≤ 62) (hbig : 0 < M ∧ 4611686018427387904 / M < k) :
    Calls Try.prog 25 #[.int .i64 33, .int .i64 k, .int .i64 s, .slice (some ⟨bb, off, none⟩) 1 cap] w fun e w' => e = .returned (spV ((0, 0), 13)) ∧ Below w.heap.size w w' := by
  have d0 := (cell_old (o := cs 0 0) (i := off) hlt).trans c0
  have d1 := (cell_old (o := cs 0 0) (i := off + 1) hlt).trans c1
  have HB := hide (B3.start w 0 0 a b k k)
  clear c0 c1
  have HU0 := hull4 (((w.alloc (.cells #[.int .i64 0, .int .i64 0] 26)).alloc (.cells #[.int .i64 a, .int .i64 b] 26)).alloc (.cells #[.int .i64 k, .int .i64 k] 26)) a b (-a) (-b)
  simp only [World.size_alloc] at HU0
  have HU := hide HU0
  clear HU0
  obtain ⟨M', hM'⟩ : ∃ M, min (min (min a b) (-a)) (-b) = M := ⟨_, rfl⟩
  rw [hM, hM'] at HU
  have hMb : 0 ≤ M ∧ M ≤ 2147483648 := by omega
  clear hM hM'
  obtain ⟨hM1, hk1⟩ := hbig
  have e1 : decide (0 < M) = true := by simp; omega
  have e2 : decide (4611686018427387904 / M < k) = true := by simp; omega
  go_enter Try.func25, Try.ntmps25
  go_wp2_with fail
  refine HU.out.mono ?_
  rintro e w2 ⟨rfl, hb2⟩
  have HB2 := hide (HB.out.later (bel (bel1 _ (.cells #[.int .i64 a, .int .i64 b, .int .i64 (-a), .int .i64 (-b)] 3)) (by simpa using hb2)))
  clear hb2 d0 d1
  obtain ⟨u1, u2, -, -⟩ := facts2 HB2.out.b
  obtain ⟨u5, u6, u7, u8⟩ := facts2 HB2.out.a
  go_wp2_with fail
  obtain ⟨f0, f1, hB4⟩ := stored2 HB2.out.a HB2.out.bel (Nat.le_refl _) 0 0
  exact bodyPost_ret (v := .tuple #[.agg #[.int .i64 0, .int .i64 0], .int .i64 13]) (by simp [results, Try.results25, go_sem, f0, f1]) rfl ⟨rfl, hB4⟩

set_option maxRecDepth 100000 in
set_option maxHeartbeats 4000000 in
theorem qplain_33 (k s a b : Int) (bb off cap : Nat) (w : World) (hcap : 1 ≤ cap) (hlt : bb < w.heap.size) (c0 : w.cell? ⟨bb, off, none⟩ = some (.int .i64 a)) (c1 : w.cell? ⟨bb, off + 1, none⟩ = some (.int .i64 b)) (ha : W32 a) (hb : W32 b)
    (M : Int) (hM : max (max (max a b) (-a)) (-b) = M) (hk : 1 ≤ k ∧ k ≤ 4611686018427387904) (hs : 0 ≤ s ∧ s ≤ 62) (hbig : ¬ (0 < M ∧ 4611686018427387904 / M < k)) (hpa : -4611686018427387904 ≤ a * k ∧ a * k ≤ 4611686018427387904) (hpb : -4611686018427387904 ≤ b * k ∧ b * k ≤ 4611686018427387904) :
    Calls Try.prog 25 #[.int .i64 33, .int .i64 k, .int .i64 s, .slice (some ⟨bb, off, none⟩) 1 cap] w fun e w' => e = .returned (spV ((a * k / 2 ^ s.toNat, b * k / 2 ^ s.toNat), 0)) ∧ Below w.heap.size w w' := by
  have d0 := (cell_old (o := cs 0 0) (i := off) hlt).trans c0
  have d1 := (cell_old (o := cs 0 0) (i := off + 1) hlt).trans c1
  have HB := hide (B3.start w 0 0 a b k k)
  clear c0 c1
  have HU0 := hull4 (((w.alloc (.cells #[.int .i64 0, .int .i64 0] 26)).alloc (.cells #[.int .i64 a, .int .i64 b] 26)).alloc (.cells #[.int .i64 k, .int .i64 k] 26)) a b (-a) (-b)
  simp only [World.size_alloc] at HU0
  have HU := hide HU0
  clear HU0
  obtain ⟨M', hM'⟩ : ∃ M, min (min (min a b) (-a)) (-b) = M := ⟨_, rfl⟩
  rw [hM, hM'] at HU
  have hMb : 0 ≤ M ∧ M ≤ 2147483648 := by omega
  clear hM hM'
  have hp := pow_bd s.toNat 62 (by omega)
  have HP := fun w => hide (rpower_any s w (by omega))
  have wa : IntKind.i64.wrap (a * k) = a * k := wrap62 hpa
  have wb : IntKind.i64.wrap (b * k) = b * k := wrap62 hpb
  have HF := hide fun (z : Int) (W : World) (hz : z = IntKind.i64.wrap (a * k) ∨ z = IntKind.i64.wrap (b * k)) => rfloor_any z (2 ^ s.toNat) W (by rcases hz with rfl | rfl <;> first | (rw [wa]; assumption) | (rw [wb]; assumption)) (by omega)
  have WA := hide wa
  have WB := hide wb
  clear wa wb
  obtain ⟨p, hpp⟩ : ∃ p, (2 : Int) ^ s.toNat = p := ⟨_, rfl⟩
  rw [hpp] at HP HF hp ⊢
  clear hpp
  rcases (show M = 0 ∨ (1 ≤ M ∧ k ≤ 4611686018427387904 / M) by omega) with rfl | ⟨hM1, hk1⟩
  · clear hbig hMb
    go_enter Try.func25, Try.ntmps25
    go_wp2_with fail
    refine HU.out.mono ?_
    rintro e w2 ⟨rfl, hb2⟩
    have HB2 := hide (HB.out.later (bel (bel1 _ (.cells #[.int .i64 a, .int .i64 b, .int .i64 (-a), .int .i64 (-b)] 3)) (by simpa using hb2)))
    clear hb2 d0 d1
    obtain ⟨u1, u2, -, -⟩ := facts2 HB2.out.b
    obtain ⟨u5, u6, u7, u8⟩ := facts2 HB2.out.a
    go_wp2_with fail
    go_region_held3 (fun w' => w'.cell? ⟨w.heap.size + 1, 0, none⟩ = some (.int .i64 a) ∧ w'.cell? ⟨w.heap.size + 1, 1, none⟩ = some (.int .i64 b))
      (first | exact ⟨u1, u2⟩ | exact ⟨far1 u1, far1 u2⟩ | go_keep)
      ((first
        | (go_at_call 44; refine (HP _).out.mono ?_; rintro e' w' ⟨rfl, hw'⟩; have hq := hw'.symm; subst hq)
        | (go_at_call 43; refine (HF.out _ _ (by first | exact .inl rfl | exact .inr rfl)).mono ?_; rintro e' w' ⟨rfl, hw'⟩; have hq := hw'.symm; subst hq)))
    all_goals
      rename_i hHeld
      clear hHeld
      rw [WA.out, WB.out]
      go_wp2_with fail
      obtain ⟨f0, f1, hB4⟩ := stored2 HB2.out.a HB2.out.bel (Nat.le_refl _) (a * k / p) (b * k / p)
      exact bodyPost_ret (v := .tuple #[.agg #[.int .i64 (a * k / p), .int .i64 (b * k / p)], .int .i64 0]) (by simp [results, Try.results25, go_sem, f0, f1]) rfl ⟨rfl, bel hB4 (below_drew _)⟩
  · have e1 : decide (0 < M) = true := by simp; omega
    have e2 : decide (4611686018427387904 / M < k) = false := by simp; omega
    clear hbig
    go_enter Try.func25, Try.ntmps25
    go_wp2_with fail
    refine HU.out.mono ?_
    rintro e w2 ⟨rfl, hb2⟩
    have HB2 := hide (HB.out.later (bel (bel1 _ (.cells #[.int .i64 a, .int .i64 b, .int .i64 (-a), .int .i64 (-b)] 3)) (by simpa using hb2)))
    clear hb2 d0 d1
    obtain ⟨u1, u2, -, -⟩ := facts2 HB2.out.b
    obtain ⟨u5, u6, u7, u8⟩ := facts2 HB2.out.a
    go_wp2_with fail
    go_region_held3 (fun w' => w'.cell? ⟨w.heap.size + 1, 0, none⟩ = some (.int .i64 a) ∧ w'.cell? ⟨w.heap.size + 1, 1, none⟩ = some (.int .i64 b))
      (first | exact ⟨u1, u2⟩ | exact ⟨far1 u1, far1 u2⟩ | go_keep)
      ((first
        | (go_at_call 44; refine (HP _).out.mono ?_; rintro e' w' ⟨rfl, hw'⟩; have hq := hw'.symm; subst hq)
        | (go_at_call 43; refine (HF.out _ _ (by first | exact .inl rfl | exact .inr rfl)).mono ?_; rintro e' w' ⟨rfl, hw'⟩; have hq := hw'.symm; subst hq)))
    all_goals
      rename_i hHeld
      clear hHeld
      rw [WA.out, WB.out]
      go_wp2_with fail
      obtain ⟨f0, f1, hB4⟩ := stored2 HB2.out.a HB2.out.bel (Nat.le_refl _) (a * k / p) (b * k / p)
      exact bodyPost_ret (v := .tuple #[.agg #[.int .i64 (a * k / p), .int .i64 (b * k / p)], .int .i64 0]) (by simp [results, Try.results25, go_sem, f0, f1]) rfl ⟨rfl, bel hB4 (below_drew _)⟩

end Go.Proofs.Ytbandppkhknaoaa
