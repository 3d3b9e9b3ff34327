/-
  The walk of span.reckoned, operator by operator.
-/
import Derived.Test.YtihbhbeaihdgnaaGreatRSpReck
namespace Go.Proofs.YtihbhbeaihdgnaaGreat.Spn
open Go.RowKit Go.IntWalk Go.Sort
set_option linter.unusedVariables false

abbrev c1 (x : Int) : Obj := .cells #[.int .i64 x] 3

/-- The memory of 'reckoned'. -/
structure Rk (w W : World) (op k s : Int) : Prop where
  cap : Cap W w.heap.size (w.heap.size + 1) (w.heap.size + 1 + 1) op k s
  r : HasC W (w.heap.size + 1 + 1 + 1) 74 #[.int .i64 0, .int .i64 0]
  bel : Below w.heap.size w W
theorem Rk.later {w W W' : World} {op k s : Int} (h : Rk w W op k s) (hb : Below W.heap.size W W') : Rk w W' op k s := ⟨h.cap.later hb, h.r.below hb, h.bel.trans (hb.mono h.bel.size)⟩
theorem below_drew (W : World) : Below W.heap.size W W.drew := ⟨rfl, rfl, rfl, Nat.le_refl _, fun _ _ => rfl⟩
theorem Rk.drew {w W : World} {op k s : Int} (h : Rk w W op k s) : Rk w W.drew op k s := h.later (below_drew W)
theorem Rk.start (w : World) (op k s : Int) : Rk w ((((w.alloc (c1 op)).alloc (c1 k)).alloc (c1 s)).alloc (cs 0 0)) op k s := by
  have h1 := (((HasC.new w 3 #[.int .i64 op]).alloc (c1 k)).alloc (c1 s)).alloc (cs 0 0)
  have h2 := ((HasC.new (w.alloc (c1 op)) 3 #[.int .i64 k]).alloc (c1 s)).alloc (cs 0 0)
  have h3 := (HasC.new ((w.alloc (c1 op)).alloc (c1 k)) 3 #[.int .i64 s]).alloc (cs 0 0)
  have h4 := HasC.new (((w.alloc (c1 op)).alloc (c1 k)).alloc (c1 s)) 74 #[.int .i64 0, .int .i64 0]
  simp only [World.size_alloc] at h2 h3 h4
  exact ⟨⟨h1, h2, h3⟩, h4, ((((Below.refl _ _).alloc (Nat.le_refl _) _).alloc (by simp) _).alloc (by simp; omega) _).alloc (by simp; omega) _⟩

theorem far2 {W : World} {B g b i : Nat} {u v x : Value} (hb : b < B) (hg : B ≤ g) (hc : W.cell? ⟨b, i, none⟩ = some x) : ((W.setCell ⟨g, 0, none⟩ u).setCell ⟨g, 1, none⟩ v).cell? ⟨b, i, none⟩ = some x :=
  ((((Below.refl B W).setCell (p := ⟨g, 0, none⟩) hg u).setCell (p := ⟨g, 1, none⟩) hg v).cell (p := ⟨b, i, none⟩) hb).trans hc

set_option maxRecDepth 100000 in
set_option maxHeartbeats 4000000 in
theorem reck_corn (op k s a b c d : Int) (bb off cap : Nat) (w : World) (hcap : 2 ≤ cap) (hlt : bb < w.heap.size) (c0 : w.cell? ⟨bb, off, none⟩ = some (.int .i64 a)) (c1 : w.cell? ⟨bb, off + 1, none⟩ = some (.int .i64 b)) (c2 : w.cell? ⟨bb, off + 2, none⟩ = some (.int .i64 c)) (c3 : w.cell? ⟨bb, off + 2 + 1, none⟩ = some (.int .i64 d)) (ho : op = 10 ∨ op = 13 ∨ op = 14 ∨ op = 18 ∨ op = 19 ∨ op = 20 ∨ op = 21) :
    Calls Tryz.prog 165 #[.int .i64 op, .int .i64 k, .int .i64 s, .slice (some ⟨bb, off, none⟩) 2 cap] w fun r w' => r = .returned (spV (cornZ (fun u v => valZ op k s [u, v]) a b c d)) ∧ Below w.heap.size w w' := by
  have R0 := Rk.start w op k s
  have d0 := (R0.bel.cell (p := ⟨bb, off, none⟩) hlt).trans c0
  have d1 := (R0.bel.cell (p := ⟨bb, off + 1, none⟩) hlt).trans c1
  have d2 := (R0.bel.cell (p := ⟨bb, off + 2, none⟩) hlt).trans c2
  have d3 := (R0.bel.cell (p := ⟨bb, off + 2 + 1, none⟩) hlt).trans c3
  have HR := hide R0
  clear R0 c0 c1 c2 c3
  have HC := hide fun (W' : World) (hW' : Rk w W' op k s) => corners_any op k s a b c d _ _ _ W' hW'.cap (fun u v => valZ op k s [u, v]) (fun _ _ => rfl)
  unfold cornV at HC
  obtain ⟨⟨⟨x, y⟩, e⟩, hZ⟩ : ∃ Z, cornZ (fun u v => valZ op k s [u, v]) a b c d = Z := ⟨_, rfl⟩
  rw [hZ] at HC ⊢
  clear hZ
  rcases ho with rfl | rfl | rfl | rfl | rfl | rfl | rfl
  · go_enter Tryz.func165, Tryz.ntmps165
    go_wp2_with fail
    obtain ⟨W, hW⟩ : ∃ W, ((((w.alloc (.cells #[.int .i64 10] 3)).alloc (.cells #[.int .i64 k] 3)).alloc (.cells #[.int .i64 s] 3)).alloc (.cells #[.int .i64 0, .int .i64 0] 74)) = W := ⟨_, rfl⟩
    rw [hW] at HR d0 d1 d2 d3 ⊢
    clear hW
    have hlW := World.block_lt_of_cell? W _ d0
    go_region_held3 (fun w' => w'.cell? ⟨bb, off, none⟩ = some (.int .i64 a) ∧ w'.cell? ⟨bb, off + 1, none⟩ = some (.int .i64 b) ∧ w'.cell? ⟨bb, off + 2, none⟩ = some (.int .i64 c) ∧ w'.cell? ⟨bb, off + 2 + 1, none⟩ = some (.int .i64 d))
      (first | exact ⟨t0, t1, t2, t3⟩ | exact ⟨far2 hlt (by omega) t0, far2 hlt (by omega) t1, far2 hlt (by omega) t2, far2 hlt (by omega) t3⟩ | go_keep)
      ((go_at_call 193; refine (HC.out _ HR.out.drew).mono ?_; rintro e' w2 ⟨rfl, hb2⟩; have t0 := (hb2.cell (p := ⟨bb, off, none⟩) hlW).trans d0; have t1 := (hb2.cell (p := ⟨bb, off + 1, none⟩) hlW).trans d1; have t2 := (hb2.cell (p := ⟨bb, off + 2, none⟩) hlW).trans d2; have t3 := (hb2.cell (p := ⟨bb, off + 2 + 1, none⟩) hlW).trans d3; have HR9 := hide (HR.out.drew.later hb2); obtain ⟨s1, s2, s3, s4⟩ := facts2 HR9.out.r))
    go_wp2_with fail
    obtain ⟨d0, d1, hB4⟩ := stored2 HR9.out.r HR9.out.bel (by omega) x y
    exact bodyPost_ret (v := .tuple #[.agg #[.int .i64 x, .int .i64 y], .int .i64 e]) (by simp [results, Tryz.results165, go_sem, d0, d1]) rfl ⟨rfl, hB4⟩
  · go_enter Tryz.func165, Tryz.ntmps165
    go_wp2_with fail
    obtain ⟨W, hW⟩ : ∃ W, ((((w.alloc (.cells #[.int .i64 13] 3)).alloc (.cells #[.int .i64 k] 3)).alloc (.cells #[.int .i64 s] 3)).alloc (.cells #[.int .i64 0, .int .i64 0] 74)) = W := ⟨_, rfl⟩
    rw [hW] at HR d0 d1 d2 d3 ⊢
    clear hW
    have hlW := World.block_lt_of_cell? W _ d0
    go_region_held3 (fun w' => w'.cell? ⟨bb, off, none⟩ = some (.int .i64 a) ∧ w'.cell? ⟨bb, off + 1, none⟩ = some (.int .i64 b) ∧ w'.cell? ⟨bb, off + 2, none⟩ = some (.int .i64 c) ∧ w'.cell? ⟨bb, off + 2 + 1, none⟩ = some (.int .i64 d))
      (first | exact ⟨t0, t1, t2, t3⟩ | exact ⟨far2 hlt (by omega) t0, far2 hlt (by omega) t1, far2 hlt (by omega) t2, far2 hlt (by omega) t3⟩ | go_keep)
      ((go_at_call 193; refine (HC.out _ HR.out.drew).mono ?_; rintro e' w2 ⟨rfl, hb2⟩; have t0 := (hb2.cell (p := ⟨bb, off, none⟩) hlW).trans d0; have t1 := (hb2.cell (p := ⟨bb, off + 1, none⟩) hlW).trans d1; have t2 := (hb2.cell (p := ⟨bb, off + 2, none⟩) hlW).trans d2; have t3 := (hb2.cell (p := ⟨bb, off + 2 + 1, none⟩) hlW).trans d3; have HR9 := hide (HR.out.drew.later hb2); obtain ⟨s1, s2, s3, s4⟩ := facts2 HR9.out.r))
    go_wp2_with fail
    obtain ⟨d0, d1, hB4⟩ := stored2 HR9.out.r HR9.out.bel (by omega) x y
    exact bodyPost_ret (v := .tuple #[.agg #[.int .i64 x, .int .i64 y], .int .i64 e]) (by simp [results, Tryz.results165, go_sem, d0, d1]) rfl ⟨rfl, hB4⟩
  · go_enter Tryz.func165, Tryz.ntmps165
    go_wp2_with fail
    obtain ⟨W, hW⟩ : ∃ W, ((((w.alloc (.cells #[.int .i64 14] 3)).alloc (.cells #[.int .i64 k] 3)).alloc (.cells #[.int .i64 s] 3)).alloc (.cells #[.int .i64 0, .int .i64 0] 74)) = W := ⟨_, rfl⟩
    rw [hW] at HR d0 d1 d2 d3 ⊢
    clear hW
    have hlW := World.block_lt_of_cell? W _ d0
    go_region_held3 (fun w' => w'.cell? ⟨bb, off, none⟩ = some (.int .i64 a) ∧ w'.cell? ⟨bb, off + 1, none⟩ = some (.int .i64 b) ∧ w'.cell? ⟨bb, off + 2, none⟩ = some (.int .i64 c) ∧ w'.cell? ⟨bb, off + 2 + 1, none⟩ = some (.int .i64 d))
      (first | exact ⟨t0, t1, t2, t3⟩ | exact ⟨far2 hlt (by omega) t0, far2 hlt (by omega) t1, far2 hlt (by omega) t2, far2 hlt (by omega) t3⟩ | go_keep)
      ((go_at_call 193; refine (HC.out _ HR.out.drew).mono ?_; rintro e' w2 ⟨rfl, hb2⟩; have t0 := (hb2.cell (p := ⟨bb, off, none⟩) hlW).trans d0; have t1 := (hb2.cell (p := ⟨bb, off + 1, none⟩) hlW).trans d1; have t2 := (hb2.cell (p := ⟨bb, off + 2, none⟩) hlW).trans d2; have t3 := (hb2.cell (p := ⟨bb, off + 2 + 1, none⟩) hlW).trans d3; have HR9 := hide (HR.out.drew.later hb2); obtain ⟨s1, s2, s3, s4⟩ := facts2 HR9.out.r))
    go_wp2_with fail
    obtain ⟨d0, d1, hB4⟩ := stored2 HR9.out.r HR9.out.bel (by omega) x y
    exact bodyPost_ret (v := .tuple #[.agg #[.int .i64 x, .int .i64 y], .int .i64 e]) (by simp [results, Tryz.results165, go_sem, d0, d1]) rfl ⟨rfl, hB4⟩
  · go_enter Tryz.func165, Tryz.ntmps165
    go_wp2_with fail
    obtain ⟨W, hW⟩ : ∃ W, ((((w.alloc (.cells #[.int .i64 18] 3)).alloc (.cells #[.int .i64 k] 3)).alloc (.cells #[.int .i64 s] 3)).alloc (.cells #[.int .i64 0, .int .i64 0] 74)) = W := ⟨_, rfl⟩
    rw [hW] at HR d0 d1 d2 d3 ⊢
    clear hW
    have hlW := World.block_lt_of_cell? W _ d0
    go_region_held3 (fun w' => w'.cell? ⟨bb, off, none⟩ = some (.int .i64 a) ∧ w'.cell? ⟨bb, off + 1, none⟩ = some (.int .i64 b) ∧ w'.cell? ⟨bb, off + 2, none⟩ = some (.int .i64 c) ∧ w'.cell? ⟨bb, off + 2 + 1, none⟩ = some (.int .i64 d))
      (first | exact ⟨t0, t1, t2, t3⟩ | exact ⟨far2 hlt (by omega) t0, far2 hlt (by omega) t1, far2 hlt (by omega) t2, far2 hlt (by omega) t3⟩ | go_keep)
      ((go_at_call 193; refine (HC.out _ HR.out.drew).mono ?_; rintro e' w2 ⟨rfl, hb2⟩; have t0 := (hb2.cell (p := ⟨bb, off, none⟩) hlW).trans d0; have t1 := (hb2.cell (p := ⟨bb, off + 1, none⟩) hlW).trans d1; have t2 := (hb2.cell (p := ⟨bb, off + 2, none⟩) hlW).trans d2; have t3 := (hb2.cell (p := ⟨bb, off + 2 + 1, none⟩) hlW).trans d3; have HR9 := hide (HR.out.drew.later hb2); obtain ⟨s1, s2, s3, s4⟩ := facts2 HR9.out.r))
    go_wp2_with fail
    obtain ⟨d0, d1, hB4⟩ := stored2 HR9.out.r HR9.out.bel (by omega) x y
    exact bodyPost_ret (v := .tuple #[.agg #[.int .i64 x, .int .i64 y], .int .i64 e]) (by simp [results, Tryz.results165, go_sem, d0, d1]) rfl ⟨rfl, hB4⟩
  · go_enter Tryz.func165, Tryz.ntmps165
    go_wp2_with fail
    obtain ⟨W, hW⟩ : ∃ W, ((((w.alloc (.cells #[.int .i64 19] 3)).alloc (.cells #[.int .i64 k] 3)).alloc (.cells #[.int .i64 s] 3)).alloc (.cells #[.int .i64 0, .int .i64 0] 74)) = W := ⟨_, rfl⟩
    rw [hW] at HR d0 d1 d2 d3 ⊢
    clear hW
    have hlW := World.block_lt_of_cell? W _ d0
    go_region_held3 (fun w' => w'.cell? ⟨bb, off, none⟩ = some (.int .i64 a) ∧ w'.cell? ⟨bb, off + 1, none⟩ = some (.int .i64 b) ∧ w'.cell? ⟨bb, off + 2, none⟩ = some (.int .i64 c) ∧ w'.cell? ⟨bb, off + 2 + 1, none⟩ = some (.int .i64 d))
      (first | exact ⟨t0, t1, t2, t3⟩ | exact ⟨far2 hlt (by omega) t0, far2 hlt (by omega) t1, far2 hlt (by omega) t2, far2 hlt (by omega) t3⟩ | go_keep)
      ((go_at_call 193; refine (HC.out _ HR.out.drew).mono ?_; rintro e' w2 ⟨rfl, hb2⟩; have t0 := (hb2.cell (p := ⟨bb, off, none⟩) hlW).trans d0; have t1 := (hb2.cell (p := ⟨bb, off + 1, none⟩) hlW).trans d1; have t2 := (hb2.cell (p := ⟨bb, off + 2, none⟩) hlW).trans d2; have t3 := (hb2.cell (p := ⟨bb, off + 2 + 1, none⟩) hlW).trans d3; have HR9 := hide (HR.out.drew.later hb2); obtain ⟨s1, s2, s3, s4⟩ := facts2 HR9.out.r))
    go_wp2_with fail
    obtain ⟨d0, d1, hB4⟩ := stored2 HR9.out.r HR9.out.bel (by omega) x y
    exact bodyPost_ret (v := .tuple #[.agg #[.int .i64 x, .int .i64 y], .int .i64 e]) (by simp [results, Tryz.results165, go_sem, d0, d1]) rfl ⟨rfl, hB4⟩
  · go_enter Tryz.func165, Tryz.ntmps165
    go_wp2_with fail
    obtain ⟨W, hW⟩ : ∃ W, ((((w.alloc (.cells #[.int .i64 20] 3)).alloc (.cells #[.int .i64 k] 3)).alloc (.cells #[.int .i64 s] 3)).alloc (.cells #[.int .i64 0, .int .i64 0] 74)) = W := ⟨_, rfl⟩
    rw [hW] at HR d0 d1 d2 d3 ⊢
    clear hW
    have hlW := World.block_lt_of_cell? W _ d0
    go_region_held3 (fun w' => w'.cell? ⟨bb, off, none⟩ = some (.int .i64 a) ∧ w'.cell? ⟨bb, off + 1, none⟩ = some (.int .i64 b) ∧ w'.cell? ⟨bb, off + 2, none⟩ = some (.int .i64 c) ∧ w'.cell? ⟨bb, off + 2 + 1, none⟩ = some (.int .i64 d))
      (first | exact ⟨t0, t1, t2, t3⟩ | exact ⟨far2 hlt (by omega) t0, far2 hlt (by omega) t1, far2 hlt (by omega) t2, far2 hlt (by omega) t3⟩ | go_keep)
      ((go_at_call 193; refine (HC.out _ HR.out.drew).mono ?_; rintro e' w2 ⟨rfl, hb2⟩; have t0 := (hb2.cell (p := ⟨bb, off, none⟩) hlW).trans d0; have t1 := (hb2.cell (p := ⟨bb, off + 1, none⟩) hlW).trans d1; have t2 := (hb2.cell (p := ⟨bb, off + 2, none⟩) hlW).trans d2; have t3 := (hb2.cell (p := ⟨bb, off + 2 + 1, none⟩) hlW).trans d3; have HR9 := hide (HR.out.drew.later hb2); obtain ⟨s1, s2, s3, s4⟩ := facts2 HR9.out.r))
    go_wp2_with fail
    obtain ⟨d0, d1, hB4⟩ := stored2 HR9.out.r HR9.out.bel (by omega) x y
    exact bodyPost_ret (v := .tuple #[.agg #[.int .i64 x, .int .i64 y], .int .i64 e]) (by simp [results, Tryz.results165, go_sem, d0, d1]) rfl ⟨rfl, hB4⟩
  · go_enter Tryz.func165, Tryz.ntmps165
    go_wp2_with fail
    obtain ⟨W, hW⟩ : ∃ W, ((((w.alloc (.cells #[.int .i64 21] 3)).alloc (.cells #[.int .i64 k] 3)).alloc (.cells #[.int .i64 s] 3)).alloc (.cells #[.int .i64 0, .int .i64 0] 74)) = W := ⟨_, rfl⟩
    rw [hW] at HR d0 d1 d2 d3 ⊢
    clear hW
    have hlW := World.block_lt_of_cell? W _ d0
    go_region_held3 (fun w' => w'.cell? ⟨bb, off, none⟩ = some (.int .i64 a) ∧ w'.cell? ⟨bb, off + 1, none⟩ = some (.int .i64 b) ∧ w'.cell? ⟨bb, off + 2, none⟩ = some (.int .i64 c) ∧ w'.cell? ⟨bb, off + 2 + 1, none⟩ = some (.int .i64 d))
      (first | exact ⟨t0, t1, t2, t3⟩ | exact ⟨far2 hlt (by omega) t0, far2 hlt (by omega) t1, far2 hlt (by omega) t2, far2 hlt (by omega) t3⟩ | go_keep)
      ((go_at_call 193; refine (HC.out _ HR.out.drew).mono ?_; rintro e' w2 ⟨rfl, hb2⟩; have t0 := (hb2.cell (p := ⟨bb, off, none⟩) hlW).trans d0; have t1 := (hb2.cell (p := ⟨bb, off + 1, none⟩) hlW).trans d1; have t2 := (hb2.cell (p := ⟨bb, off + 2, none⟩) hlW).trans d2; have t3 := (hb2.cell (p := ⟨bb, off + 2 + 1, none⟩) hlW).trans d3; have HR9 := hide (HR.out.drew.later hb2); obtain ⟨s1, s2, s3, s4⟩ := facts2 HR9.out.r))
    go_wp2_with fail
    obtain ⟨d0, d1, hB4⟩ := stored2 HR9.out.r HR9.out.bel (by omega) x y
    exact bodyPost_ret (v := .tuple #[.agg #[.int .i64 x, .int .i64 y], .int .i64 e]) (by simp [results, Tryz.results165, go_sem, d0, d1]) rfl ⟨rfl, hB4⟩

set_option maxRecDepth 100000 in
set_option maxHeartbeats 4000000 in
theorem reck_div (op k s a b c d : Int) (bb off cap : Nat) (w : World) (hcap : 2 ≤ cap) (hlt : bb < w.heap.size) (c0 : w.cell? ⟨bb, off, none⟩ = some (.int .i64 a)) (c1 : w.cell? ⟨bb, off + 1, none⟩ = some (.int .i64 b)) (c2 : w.cell? ⟨bb, off + 2, none⟩ = some (.int .i64 c)) (c3 : w.cell? ⟨bb, off + 2 + 1, none⟩ = some (.int .i64 d)) (ho : op = 11 ∨ op = 12) (ha : W32 a) (hb : W32 b) (hc : W32 c) (hd : W32 d) :
    Calls Tryz.prog 165 #[.int .i64 op, .int .i64 k, .int .i64 s, .slice (some ⟨bb, off, none⟩) 2 cap] w fun r w' => r = .returned (spV (divZ (fun u v => valZ op k s [u, v]) op a b c d)) ∧ Below w.heap.size w w' := by
  have R0 := Rk.start w op k s
  have d0 := (R0.bel.cell (p := ⟨bb, off, none⟩) hlt).trans c0
  have d1 := (R0.bel.cell (p := ⟨bb, off + 1, none⟩) hlt).trans c1
  have d2 := (R0.bel.cell (p := ⟨bb, off + 2, none⟩) hlt).trans c2
  have d3 := (R0.bel.cell (p := ⟨bb, off + 2 + 1, none⟩) hlt).trans c3
  have HR := hide R0
  clear R0 c0 c1 c2 c3
  have HC := hide fun (W' : World) (hW' : Rk w W' op k s) => sdivided_any op k s a b c d _ _ _ W' hW'.cap (fun u v => valZ op k s [u, v]) (fun _ _ => rfl) ho ha hb hc hd
  obtain ⟨⟨⟨x, y⟩, e⟩, hZ⟩ : ∃ Z, divZ (fun u v => valZ op k s [u, v]) op a b c d = Z := ⟨_, rfl⟩
  rw [hZ] at HC ⊢
  clear hZ
  rcases ho with rfl | rfl
  · go_enter Tryz.func165, Tryz.ntmps165
    go_wp2_with fail
    obtain ⟨W, hW⟩ : ∃ W, ((((w.alloc (.cells #[.int .i64 11] 3)).alloc (.cells #[.int .i64 k] 3)).alloc (.cells #[.int .i64 s] 3)).alloc (.cells #[.int .i64 0, .int .i64 0] 74)) = W := ⟨_, rfl⟩
    rw [hW] at HR d0 d1 d2 d3 ⊢
    clear hW
    have hlW := World.block_lt_of_cell? W _ d0
    have d4 := HR.out.cap.o.cell 0 rfl
    go_region_held3 (fun w' => w'.cell? ⟨bb, off, none⟩ = some (.int .i64 a) ∧ w'.cell? ⟨bb, off + 1, none⟩ = some (.int .i64 b) ∧ w'.cell? ⟨bb, off + 2, none⟩ = some (.int .i64 c) ∧ w'.cell? ⟨bb, off + 2 + 1, none⟩ = some (.int .i64 d) ∧ w'.cell? ⟨w.heap.size, 0, none⟩ = some (.int .i64 11))
      (first | exact ⟨t0, t1, t2, t3, t4⟩ | exact ⟨far2 hlt (by omega) t0, far2 hlt (by omega) t1, far2 hlt (by omega) t2, far2 hlt (by omega) t3, far2 (Nat.lt_succ_self _) (by omega) t4⟩ | go_keep)
      ((go_at_call 192; refine (HC.out _ HR.out.drew).mono ?_; rintro e' w2 ⟨rfl, hb2⟩; have t0 := (hb2.cell (p := ⟨bb, off, none⟩) hlW).trans d0; have t1 := (hb2.cell (p := ⟨bb, off + 1, none⟩) hlW).trans d1; have t2 := (hb2.cell (p := ⟨bb, off + 2, none⟩) hlW).trans d2; have t3 := (hb2.cell (p := ⟨bb, off + 2 + 1, none⟩) hlW).trans d3; have HR9 := hide (HR.out.drew.later hb2); have t4 := HR9.out.cap.o.cell 0 rfl; obtain ⟨s1, s2, s3, s4⟩ := facts2 HR9.out.r))
    go_wp2_with fail
    obtain ⟨d0, d1, hB4⟩ := stored2 HR9.out.r HR9.out.bel (by omega) x y
    exact bodyPost_ret (v := .tuple #[.agg #[.int .i64 x, .int .i64 y], .int .i64 e]) (by simp [results, Tryz.results165, go_sem, d0, d1]) rfl ⟨rfl, hB4⟩
  · go_enter Tryz.func165, Tryz.ntmps165
    go_wp2_with fail
    obtain ⟨W, hW⟩ : ∃ W, ((((w.alloc (.cells #[.int .i64 12] 3)).alloc (.cells #[.int .i64 k] 3)).alloc (.cells #[.int .i64 s] 3)).alloc (.cells #[.int .i64 0, .int .i64 0] 74)) = W := ⟨_, rfl⟩
    rw [hW] at HR d0 d1 d2 d3 ⊢
    clear hW
    have hlW := World.block_lt_of_cell? W _ d0
    have d4 := HR.out.cap.o.cell 0 rfl
    go_region_held3 (fun w' => w'.cell? ⟨bb, off, none⟩ = some (.int .i64 a) ∧ w'.cell? ⟨bb, off + 1, none⟩ = some (.int .i64 b) ∧ w'.cell? ⟨bb, off + 2, none⟩ = some (.int .i64 c) ∧ w'.cell? ⟨bb, off + 2 + 1, none⟩ = some (.int .i64 d) ∧ w'.cell? ⟨w.heap.size, 0, none⟩ = some (.int .i64 12))
      (first | exact ⟨t0, t1, t2, t3, t4⟩ | exact ⟨far2 hlt (by omega) t0, far2 hlt (by omega) t1, far2 hlt (by omega) t2, far2 hlt (by omega) t3, far2 (Nat.lt_succ_self _) (by omega) t4⟩ | go_keep)
      ((go_at_call 192; refine (HC.out _ HR.out.drew).mono ?_; rintro e' w2 ⟨rfl, hb2⟩; have t0 := (hb2.cell (p := ⟨bb, off, none⟩) hlW).trans d0; have t1 := (hb2.cell (p := ⟨bb, off + 1, none⟩) hlW).trans d1; have t2 := (hb2.cell (p := ⟨bb, off + 2, none⟩) hlW).trans d2; have t3 := (hb2.cell (p := ⟨bb, off + 2 + 1, none⟩) hlW).trans d3; have HR9 := hide (HR.out.drew.later hb2); have t4 := HR9.out.cap.o.cell 0 rfl; obtain ⟨s1, s2, s3, s4⟩ := facts2 HR9.out.r))
    go_wp2_with fail
    obtain ⟨d0, d1, hB4⟩ := stored2 HR9.out.r HR9.out.bel (by omega) x y
    exact bodyPost_ret (v := .tuple #[.agg #[.int .i64 x, .int .i64 y], .int .i64 e]) (by simp [results, Tryz.results165, go_sem, d0, d1]) rfl ⟨rfl, hB4⟩

set_option maxRecDepth 100000 in
set_option maxHeartbeats 4000000 in
theorem reck_ends (op k s : Int) (a : Option Addr) (n cap : Nat) (L : List (Int × Int)) (w : World) (h : Spans w a n cap L) (hn : n ≤ 3) (ho : op = 7 ∨ op = 24 ∨ op = 25 ∨ op = 26 ∨ op = 27 ∨ op = 29 ∨ op = 30 ∨ op = 33) :
    Calls Tryz.prog 165 #[.int .i64 op, .int .i64 k, .int .i64 s, .slice a n cap] w fun r w' => r = .returned (spV (endsZ (fun xs => valZ op k s xs) L)) ∧ Below w.heap.size w w' := by
  have HR := hide (Rk.start w op k s)
  have HC := hide fun (W' : World) (hW' : Rk w W' op k s) => ends_any op k s _ _ _ a n cap L W' hW'.cap (h.later hW'.bel) hn (fun xs => valZ op k s xs) (fun _ => rfl)
  unfold endsV at HC
  obtain ⟨⟨⟨x, y⟩, e⟩, hZ⟩ : ∃ Z, endsZ (fun xs => valZ op k s xs) L = Z := ⟨_, rfl⟩
  rw [hZ] at HC ⊢
  clear hZ h
  rcases ho with rfl | rfl | rfl | rfl | rfl | rfl | rfl | rfl
  · go_enter Tryz.func165, Tryz.ntmps165
    go_wp2_with fail
    obtain ⟨W, hW⟩ : ∃ W, ((((w.alloc (.cells #[.int .i64 7] 3)).alloc (.cells #[.int .i64 k] 3)).alloc (.cells #[.int .i64 s] 3)).alloc (.cells #[.int .i64 0, .int .i64 0] 74)) = W := ⟨_, rfl⟩
    rw [hW] at HR ⊢
    clear hW
    refine (HC.out _ HR.out).mono ?_
    rintro e' w2 ⟨rfl, hb2⟩
    have HR9 := hide (HR.out.later hb2)
    obtain ⟨s1, s2, s3, s4⟩ := facts2 HR9.out.r
    clear hb2
    go_wp2_with fail
    obtain ⟨d0, d1, hB4⟩ := stored2 HR9.out.r HR9.out.bel (by omega) x y
    exact bodyPost_ret (v := .tuple #[.agg #[.int .i64 x, .int .i64 y], .int .i64 e]) (by simp [results, Tryz.results165, go_sem, d0, d1]) rfl ⟨rfl, hB4⟩
  · go_enter Tryz.func165, Tryz.ntmps165
    go_wp2_with fail
    obtain ⟨W, hW⟩ : ∃ W, ((((w.alloc (.cells #[.int .i64 24] 3)).alloc (.cells #[.int .i64 k] 3)).alloc (.cells #[.int .i64 s] 3)).alloc (.cells #[.int .i64 0, .int .i64 0] 74)) = W := ⟨_, rfl⟩
    rw [hW] at HR ⊢
    clear hW
    refine (HC.out _ HR.out).mono ?_
    rintro e' w2 ⟨rfl, hb2⟩
    have HR9 := hide (HR.out.later hb2)
    obtain ⟨s1, s2, s3, s4⟩ := facts2 HR9.out.r
    clear hb2
    go_wp2_with fail
    obtain ⟨d0, d1, hB4⟩ := stored2 HR9.out.r HR9.out.bel (by omega) x y
    exact bodyPost_ret (v := .tuple #[.agg #[.int .i64 x, .int .i64 y], .int .i64 e]) (by simp [results, Tryz.results165, go_sem, d0, d1]) rfl ⟨rfl, hB4⟩
  · go_enter Tryz.func165, Tryz.ntmps165
    go_wp2_with fail
    obtain ⟨W, hW⟩ : ∃ W, ((((w.alloc (.cells #[.int .i64 25] 3)).alloc (.cells #[.int .i64 k] 3)).alloc (.cells #[.int .i64 s] 3)).alloc (.cells #[.int .i64 0, .int .i64 0] 74)) = W := ⟨_, rfl⟩
    rw [hW] at HR ⊢
    clear hW
    refine (HC.out _ HR.out).mono ?_
    rintro e' w2 ⟨rfl, hb2⟩
    have HR9 := hide (HR.out.later hb2)
    obtain ⟨s1, s2, s3, s4⟩ := facts2 HR9.out.r
    clear hb2
    go_wp2_with fail
    obtain ⟨d0, d1, hB4⟩ := stored2 HR9.out.r HR9.out.bel (by omega) x y
    exact bodyPost_ret (v := .tuple #[.agg #[.int .i64 x, .int .i64 y], .int .i64 e]) (by simp [results, Tryz.results165, go_sem, d0, d1]) rfl ⟨rfl, hB4⟩
  · go_enter Tryz.func165, Tryz.ntmps165
    go_wp2_with fail
    obtain ⟨W, hW⟩ : ∃ W, ((((w.alloc (.cells #[.int .i64 26] 3)).alloc (.cells #[.int .i64 k] 3)).alloc (.cells #[.int .i64 s] 3)).alloc (.cells #[.int .i64 0, .int .i64 0] 74)) = W := ⟨_, rfl⟩
    rw [hW] at HR ⊢
    clear hW
    refine (HC.out _ HR.out).mono ?_
    rintro e' w2 ⟨rfl, hb2⟩
    have HR9 := hide (HR.out.later hb2)
    obtain ⟨s1, s2, s3, s4⟩ := facts2 HR9.out.r
    clear hb2
    go_wp2_with fail
    obtain ⟨d0, d1, hB4⟩ := stored2 HR9.out.r HR9.out.bel (by omega) x y
    exact bodyPost_ret (v := .tuple #[.agg #[.int .i64 x, .int .i64 y], .int .i64 e]) (by simp [results, Tryz.results165, go_sem, d0, d1]) rfl ⟨rfl, hB4⟩
  · go_enter Tryz.func165, Tryz.ntmps165
    go_wp2_with fail
    obtain ⟨W, hW⟩ : ∃ W, ((((w.alloc (.cells #[.int .i64 27] 3)).alloc (.cells #[.int .i64 k] 3)).alloc (.cells #[.int .i64 s] 3)).alloc (.cells #[.int .i64 0, .int .i64 0] 74)) = W := ⟨_, rfl⟩
    rw [hW] at HR ⊢
    clear hW
    refine (HC.out _ HR.out).mono ?_
    rintro e' w2 ⟨rfl, hb2⟩
    have HR9 := hide (HR.out.later hb2)
    obtain ⟨s1, s2, s3, s4⟩ := facts2 HR9.out.r
    clear hb2
    go_wp2_with fail
    obtain ⟨d0, d1, hB4⟩ := stored2 HR9.out.r HR9.out.bel (by omega) x y
    exact bodyPost_ret (v := .tuple #[.agg #[.int .i64 x, .int .i64 y], .int .i64 e]) (by simp [results, Tryz.results165, go_sem, d0, d1]) rfl ⟨rfl, hB4⟩
  · go_enter Tryz.func165, Tryz.ntmps165
    go_wp2_with fail
    obtain ⟨W, hW⟩ : ∃ W, ((((w.alloc (.cells #[.int .i64 29] 3)).alloc (.cells #[.int .i64 k] 3)).alloc (.cells #[.int .i64 s] 3)).alloc (.cells #[.int .i64 0, .int .i64 0] 74)) = W := ⟨_, rfl⟩
    rw [hW] at HR ⊢
    clear hW
    refine (HC.out _ HR.out).mono ?_
    rintro e' w2 ⟨rfl, hb2⟩
    have HR9 := hide (HR.out.later hb2)
    obtain ⟨s1, s2, s3, s4⟩ := facts2 HR9.out.r
    clear hb2
    go_wp2_with fail
    obtain ⟨d0, d1, hB4⟩ := stored2 HR9.out.r HR9.out.bel (by omega) x y
    exact bodyPost_ret (v := .tuple #[.agg #[.int .i64 x, .int .i64 y], .int .i64 e]) (by simp [results, Tryz.results165, go_sem, d0, d1]) rfl ⟨rfl, hB4⟩
  · go_enter Tryz.func165, Tryz.ntmps165
    go_wp2_with fail
    obtain ⟨W, hW⟩ : ∃ W, ((((w.alloc (.cells #[.int .i64 30] 3)).alloc (.cells #[.int .i64 k] 3)).alloc (.cells #[.int .i64 s] 3)).alloc (.cells #[.int .i64 0, .int .i64 0] 74)) = W := ⟨_, rfl⟩
    rw [hW] at HR ⊢
    clear hW
    refine (HC.out _ HR.out).mono ?_
    rintro e' w2 ⟨rfl, hb2⟩
    have HR9 := hide (HR.out.later hb2)
    obtain ⟨s1, s2, s3, s4⟩ := facts2 HR9.out.r
    clear hb2
    go_wp2_with fail
    obtain ⟨d0, d1, hB4⟩ := stored2 HR9.out.r HR9.out.bel (by omega) x y
    exact bodyPost_ret (v := .tuple #[.agg #[.int .i64 x, .int .i64 y], .int .i64 e]) (by simp [results, Tryz.results165, go_sem, d0, d1]) rfl ⟨rfl, hB4⟩
  · go_enter Tryz.func165, Tryz.ntmps165
    go_wp2_with fail
    obtain ⟨W, hW⟩ : ∃ W, ((((w.alloc (.cells #[.int .i64 33] 3)).alloc (.cells #[.int .i64 k] 3)).alloc (.cells #[.int .i64 s] 3)).alloc (.cells #[.int .i64 0, .int .i64 0] 74)) = W := ⟨_, rfl⟩
    rw [hW] at HR ⊢
    clear hW
    refine (HC.out _ HR.out).mono ?_
    rintro e' w2 ⟨rfl, hb2⟩
    have HR9 := hide (HR.out.later hb2)
    obtain ⟨s1, s2, s3, s4⟩ := facts2 HR9.out.r
    clear hb2
    go_wp2_with fail
    obtain ⟨d0, d1, hB4⟩ := stored2 HR9.out.r HR9.out.bel (by omega) x y
    exact bodyPost_ret (v := .tuple #[.agg #[.int .i64 x, .int .i64 y], .int .i64 e]) (by simp [results, Tryz.results165, go_sem, d0, d1]) rfl ⟨rfl, hB4⟩

set_option maxRecDepth 100000 in
set_option maxHeartbeats 4000000 in
theorem reck_plain (op k s : Int) (a : Option Addr) (n cap : Nat) (Z : Int × Int) (w : World) (ho : op = 5 ∨ op = 6 ∨ op = 8 ∨ op = 9 ∨ op = 15 ∨ op = 16 ∨ op = 17 ∨ op = 22 ∨ op = 23 ∨ op = 28)
    (hp : ∀ W, Below w.heap.size w W → Calls Tryz.prog 195 #[.int .i64 op, .slice a n cap] W fun r w' => r = .returned (.agg #[.int .i64 Z.1, .int .i64 Z.2]) ∧ Below W.heap.size W w') :
    Calls Tryz.prog 165 #[.int .i64 op, .int .i64 k, .int .i64 s, .slice a n cap] w fun r w' => r = .returned (spV (Z, 0)) ∧ Below w.heap.size w w' := by
  have HR := hide (Rk.start w op k s)
  have HC := hide fun (W' : World) (hW' : Rk w W' op k s) => hp W' hW'.bel
  clear hp
  obtain ⟨x, y⟩ := Z
  rcases ho with rfl | rfl | rfl | rfl | rfl | rfl | rfl | rfl | rfl | rfl
  · go_enter Tryz.func165, Tryz.ntmps165
    go_wp2_with fail
    obtain ⟨W, hW⟩ : ∃ W, ((((w.alloc (.cells #[.int .i64 5] 3)).alloc (.cells #[.int .i64 k] 3)).alloc (.cells #[.int .i64 s] 3)).alloc (.cells #[.int .i64 0, .int .i64 0] 74)) = W := ⟨_, rfl⟩
    rw [hW] at HR ⊢
    clear hW
    have o4 := HR.out.cap.o.cell 0 rfl
    refine (HC.out _ HR.out).mono ?_
    rintro e' w2 ⟨rfl, hb2⟩
    have HR9 := hide (HR.out.later hb2)
    obtain ⟨s1, s2, s3, s4⟩ := facts2 HR9.out.r
    clear hb2
    go_wp2_with fail
    obtain ⟨d0, d1, hB4⟩ := stored2 HR9.out.r HR9.out.bel (by omega) x y
    exact bodyPost_ret (v := .tuple #[.agg #[.int .i64 x, .int .i64 y], .int .i64 0]) (by simp [results, Tryz.results165, go_sem, d0, d1]) rfl ⟨rfl, hB4⟩
  · go_enter Tryz.func165, Tryz.ntmps165
    go_wp2_with fail
    obtain ⟨W, hW⟩ : ∃ W, ((((w.alloc (.cells #[.int .i64 6] 3)).alloc (.cells #[.int .i64 k] 3)).alloc (.cells #[.int .i64 s] 3)).alloc (.cells #[.int .i64 0, .int .i64 0] 74)) = W := ⟨_, rfl⟩
    rw [hW] at HR ⊢
    clear hW
    have o4 := HR.out.cap.o.cell 0 rfl
    refine (HC.out _ HR.out).mono ?_
    rintro e' w2 ⟨rfl, hb2⟩
    have HR9 := hide (HR.out.later hb2)
    obtain ⟨s1, s2, s3, s4⟩ := facts2 HR9.out.r
    clear hb2
    go_wp2_with fail
    obtain ⟨d0, d1, hB4⟩ := stored2 HR9.out.r HR9.out.bel (by omega) x y
    exact bodyPost_ret (v := .tuple #[.agg #[.int .i64 x, .int .i64 y], .int .i64 0]) (by simp [results, Tryz.results165, go_sem, d0, d1]) rfl ⟨rfl, hB4⟩
  · go_enter Tryz.func165, Tryz.ntmps165
    go_wp2_with fail
    obtain ⟨W, hW⟩ : ∃ W, ((((w.alloc (.cells #[.int .i64 8] 3)).alloc (.cells #[.int .i64 k] 3)).alloc (.cells #[.int .i64 s] 3)).alloc (.cells #[.int .i64 0, .int .i64 0] 74)) = W := ⟨_, rfl⟩
    rw [hW] at HR ⊢
    clear hW
    have o4 := HR.out.cap.o.cell 0 rfl
    refine (HC.out _ HR.out).mono ?_
    rintro e' w2 ⟨rfl, hb2⟩
    have HR9 := hide (HR.out.later hb2)
    obtain ⟨s1, s2, s3, s4⟩ := facts2 HR9.out.r
    clear hb2
    go_wp2_with fail
    obtain ⟨d0, d1, hB4⟩ := stored2 HR9.out.r HR9.out.bel (by omega) x y
    exact bodyPost_ret (v := .tuple #[.agg #[.int .i64 x, .int .i64 y], .int .i64 0]) (by simp [results, Tryz.results165, go_sem, d0, d1]) rfl ⟨rfl, hB4⟩
  · go_enter Tryz.func165, Tryz.ntmps165
    go_wp2_with fail
    obtain ⟨W, hW⟩ : ∃ W, ((((w.alloc (.cells #[.int .i64 9] 3)).alloc (.cells #[.int .i64 k] 3)).alloc (.cells #[.int .i64 s] 3)).alloc (.cells #[.int .i64 0, .int .i64 0] 74)) = W := ⟨_, rfl⟩
    rw [hW] at HR ⊢
    clear hW
    have o4 := HR.out.cap.o.cell 0 rfl
    refine (HC.out _ HR.out).mono ?_
    rintro e' w2 ⟨rfl, hb2⟩
    have HR9 := hide (HR.out.later hb2)
    obtain ⟨s1, s2, s3, s4⟩ := facts2 HR9.out.r
    clear hb2
    go_wp2_with fail
    obtain ⟨d0, d1, hB4⟩ := stored2 HR9.out.r HR9.out.bel (by omega) x y
    exact bodyPost_ret (v := .tuple #[.agg #[.int .i64 x, .int .i64 y], .int .i64 0]) (by simp [results, Tryz.results165, go_sem, d0, d1]) rfl ⟨rfl, hB4⟩
  · go_enter Tryz.func165, Tryz.ntmps165
    go_wp2_with fail
    obtain ⟨W, hW⟩ : ∃ W, ((((w.alloc (.cells #[.int .i64 15] 3)).alloc (.cells #[.int .i64 k] 3)).alloc (.cells #[.int .i64 s] 3)).alloc (.cells #[.int .i64 0, .int .i64 0] 74)) = W := ⟨_, rfl⟩
    rw [hW] at HR ⊢
    clear hW
    have o4 := HR.out.cap.o.cell 0 rfl
    refine (HC.out _ HR.out).mono ?_
    rintro e' w2 ⟨rfl, hb2⟩
    have HR9 := hide (HR.out.later hb2)
    obtain ⟨s1, s2, s3, s4⟩ := facts2 HR9.out.r
    clear hb2
    go_wp2_with fail
    obtain ⟨d0, d1, hB4⟩ := stored2 HR9.out.r HR9.out.bel (by omega) x y
    exact bodyPost_ret (v := .tuple #[.agg #[.int .i64 x, .int .i64 y], .int .i64 0]) (by simp [results, Tryz.results165, go_sem, d0, d1]) rfl ⟨rfl, hB4⟩
  · go_enter Tryz.func165, Tryz.ntmps165
    go_wp2_with fail
    obtain ⟨W, hW⟩ : ∃ W, ((((w.alloc (.cells #[.int .i64 16] 3)).alloc (.cells #[.int .i64 k] 3)).alloc (.cells #[.int .i64 s] 3)).alloc (.cells #[.int .i64 0, .int .i64 0] 74)) = W := ⟨_, rfl⟩
    rw [hW] at HR ⊢
    clear hW
    have o4 := HR.out.cap.o.cell 0 rfl
    refine (HC.out _ HR.out).mono ?_
    rintro e' w2 ⟨rfl, hb2⟩
    have HR9 := hide (HR.out.later hb2)
    obtain ⟨s1, s2, s3, s4⟩ := facts2 HR9.out.r
    clear hb2
    go_wp2_with fail
    obtain ⟨d0, d1, hB4⟩ := stored2 HR9.out.r HR9.out.bel (by omega) x y
    exact bodyPost_ret (v := .tuple #[.agg #[.int .i64 x, .int .i64 y], .int .i64 0]) (by simp [results, Tryz.results165, go_sem, d0, d1]) rfl ⟨rfl, hB4⟩
  · go_enter Tryz.func165, Tryz.ntmps165
    go_wp2_with fail
    obtain ⟨W, hW⟩ : ∃ W, ((((w.alloc (.cells #[.int .i64 17] 3)).alloc (.cells #[.int .i64 k] 3)).alloc (.cells #[.int .i64 s] 3)).alloc (.cells #[.int .i64 0, .int .i64 0] 74)) = W := ⟨_, rfl⟩
    rw [hW] at HR ⊢
    clear hW
    have o4 := HR.out.cap.o.cell 0 rfl
    refine (HC.out _ HR.out).mono ?_
    rintro e' w2 ⟨rfl, hb2⟩
    have HR9 := hide (HR.out.later hb2)
    obtain ⟨s1, s2, s3, s4⟩ := facts2 HR9.out.r
    clear hb2
    go_wp2_with fail
    obtain ⟨d0, d1, hB4⟩ := stored2 HR9.out.r HR9.out.bel (by omega) x y
    exact bodyPost_ret (v := .tuple #[.agg #[.int .i64 x, .int .i64 y], .int .i64 0]) (by simp [results, Tryz.results165, go_sem, d0, d1]) rfl ⟨rfl, hB4⟩
  · go_enter Tryz.func165, Tryz.ntmps165
    go_wp2_with fail
    obtain ⟨W, hW⟩ : ∃ W, ((((w.alloc (.cells #[.int .i64 22] 3)).alloc (.cells #[.int .i64 k] 3)).alloc (.cells #[.int .i64 s] 3)).alloc (.cells #[.int .i64 0, .int .i64 0] 74)) = W := ⟨_, rfl⟩
    rw [hW] at HR ⊢
    clear hW
    have o4 := HR.out.cap.o.cell 0 rfl
    refine (HC.out _ HR.out).mono ?_
    rintro e' w2 ⟨rfl, hb2⟩
    have HR9 := hide (HR.out.later hb2)
    obtain ⟨s1, s2, s3, s4⟩ := facts2 HR9.out.r
    clear hb2
    go_wp2_with fail
    obtain ⟨d0, d1, hB4⟩ := stored2 HR9.out.r HR9.out.bel (by omega) x y
    exact bodyPost_ret (v := .tuple #[.agg #[.int .i64 x, .int .i64 y], .int .i64 0]) (by simp [results, Tryz.results165, go_sem, d0, d1]) rfl ⟨rfl, hB4⟩
  · go_enter Tryz.func165, Tryz.ntmps165
    go_wp2_with fail
    obtain ⟨W, hW⟩ : ∃ W, ((((w.alloc (.cells #[.int .i64 23] 3)).alloc (.cells #[.int .i64 k] 3)).alloc (.cells #[.int .i64 s] 3)).alloc (.cells #[.int .i64 0, .int .i64 0] 74)) = W := ⟨_, rfl⟩
    rw [hW] at HR ⊢
    clear hW
    have o4 := HR.out.cap.o.cell 0 rfl
    refine (HC.out _ HR.out).mono ?_
    rintro e' w2 ⟨rfl, hb2⟩
    have HR9 := hide (HR.out.later hb2)
    obtain ⟨s1, s2, s3, s4⟩ := facts2 HR9.out.r
    clear hb2
    go_wp2_with fail
    obtain ⟨d0, d1, hB4⟩ := stored2 HR9.out.r HR9.out.bel (by omega) x y
    exact bodyPost_ret (v := .tuple #[.agg #[.int .i64 x, .int .i64 y], .int .i64 0]) (by simp [results, Tryz.results165, go_sem, d0, d1]) rfl ⟨rfl, hB4⟩
  · go_enter Tryz.func165, Tryz.ntmps165
    go_wp2_with fail
    obtain ⟨W, hW⟩ : ∃ W, ((((w.alloc (.cells #[.int .i64 28] 3)).alloc (.cells #[.int .i64 k] 3)).alloc (.cells #[.int .i64 s] 3)).alloc (.cells #[.int .i64 0, .int .i64 0] 74)) = W := ⟨_, rfl⟩
    rw [hW] at HR ⊢
    clear hW
    have o4 := HR.out.cap.o.cell 0 rfl
    refine (HC.out _ HR.out).mono ?_
    rintro e' w2 ⟨rfl, hb2⟩
    have HR9 := hide (HR.out.later hb2)
    obtain ⟨s1, s2, s3, s4⟩ := facts2 HR9.out.r
    clear hb2
    go_wp2_with fail
    obtain ⟨d0, d1, hB4⟩ := stored2 HR9.out.r HR9.out.bel (by omega) x y
    exact bodyPost_ret (v := .tuple #[.agg #[.int .i64 x, .int .i64 y], .int .i64 0]) (by simp [results, Tryz.results165, go_sem, d0, d1]) rfl ⟨rfl, hB4⟩

set_option maxRecDepth 100000 in
set_option maxHeartbeats 4000000 in
theorem reck_andk (op k s a b : Int) (bb off cap : Nat) (w : World) (hcap : 1 ≤ cap) (hlt : bb < w.heap.size) (c0 : w.cell? ⟨bb, off, none⟩ = some (.int .i64 a)) (c1 : w.cell? ⟨bb, off + 1, none⟩ = some (.int .i64 b)) (ho : op = 31) (ha : W32 a) (hb : W32 b) (hk : W32 k) :
    Calls Tryz.prog 165 #[.int .i64 op, .int .i64 k, .int .i64 s, .slice (some ⟨bb, off, none⟩) 1 cap] w fun r w' => r = .returned (spV (bothZ a b k k, 0)) ∧ Below w.heap.size w w' := by
  have R0 := Rk.start w op k s
  have d0 := (R0.bel.cell (p := ⟨bb, off, none⟩) hlt).trans c0
  have d1 := (R0.bel.cell (p := ⟨bb, off + 1, none⟩) hlt).trans c1
  have HR := hide R0
  clear R0 c0 c1
  have HC := hide fun (W' : World) => both_any a b k k W' ha hb hk hk
  generalize bothZ a b k k = Z at *
  obtain ⟨x, y⟩ := Z
  subst ho
  go_enter Tryz.func165, Tryz.ntmps165
  go_wp2_with fail
  obtain ⟨W, hW⟩ : ∃ W, ((((w.alloc (.cells #[.int .i64 31] 3)).alloc (.cells #[.int .i64 k] 3)).alloc (.cells #[.int .i64 s] 3)).alloc (.cells #[.int .i64 0, .int .i64 0] 74)) = W := ⟨_, rfl⟩
  rw [hW] at HR d0 d1 ⊢
  clear hW
  have hlW := World.block_lt_of_cell? W _ d0
  have d4 := HR.out.cap.k.cell 0 rfl
  go_region_held3 (fun w' => w'.cell? ⟨bb, off, none⟩ = some (.int .i64 a) ∧ w'.cell? ⟨bb, off + 1, none⟩ = some (.int .i64 b) ∧ w'.cell? ⟨w.heap.size + 1, 0, none⟩ = some (.int .i64 k))
    (first | exact ⟨t0, t1, t4⟩ | exact ⟨u0, u1, u4⟩ | exact ⟨far2 hlt (by omega) u0, far2 hlt (by omega) u1, far2 (Nat.lt_succ_self _) (by omega) u4⟩ | go_keep)
    ((first
      | (go_at_call 190; refine (alone_any _ _).mono ?_; rintro e' w2 ⟨rfl, hb2⟩; have t0 := (hb2.cell (p := ⟨bb, off, none⟩) hlW).trans d0; have t1 := (hb2.cell (p := ⟨bb, off + 1, none⟩) hlW).trans d1; have HR2 := hide (HR.out.drew.later hb2); have t4 := HR2.out.cap.k.cell 0 rfl; have hl2 := World.block_lt_of_cell? w2 _ t0)
      | (go_at_call 191; refine (HC.out _).mono ?_; rintro e' w3 ⟨rfl, hb3⟩; have u0 := (hb3.cell (p := ⟨bb, off, none⟩) hl2).trans t0; have u1 := (hb3.cell (p := ⟨bb, off + 1, none⟩) hl2).trans t1; have HR9 := hide (HR2.out.later hb3); have u4 := HR9.out.cap.k.cell 0 rfl; obtain ⟨s1, s2, s3, s4⟩ := facts2 HR9.out.r)))
  go_wp2_with fail
  obtain ⟨d0, d1, hB4⟩ := stored2 HR9.out.r HR9.out.bel (by omega) x y
  exact bodyPost_ret (v := .tuple #[.agg #[.int .i64 x, .int .i64 y], .int .i64 0]) (by simp [results, Tryz.results165, go_sem, d0, d1]) rfl ⟨rfl, hB4⟩

theorem cells4 (W : World) (a b c d : Int) : (W.alloc (.cells #[.int .i64 a, .int .i64 b, .int .i64 c, .int .i64 d] 74)).cell? ⟨W.heap.size, 0, none⟩ = some (.int .i64 a) ∧ (W.alloc (.cells #[.int .i64 a, .int .i64 b, .int .i64 c, .int .i64 d] 74)).cell? ⟨W.heap.size, 0 + 1, none⟩ = some (.int .i64 b) ∧
    (W.alloc (.cells #[.int .i64 a, .int .i64 b, .int .i64 c, .int .i64 d] 74)).cell? ⟨W.heap.size, 0 + 2, none⟩ = some (.int .i64 c) ∧ (W.alloc (.cells #[.int .i64 a, .int .i64 b, .int .i64 c, .int .i64 d] 74)).cell? ⟨W.heap.size, 0 + 2 + 1, none⟩ = some (.int .i64 d) := by
  have h := HasC.new W 74 #[.int .i64 a, .int .i64 b, .int .i64 c, .int .i64 d]
  exact ⟨h.cell 0 rfl, h.cell 1 rfl, h.cell 2 rfl, h.cell 3 rfl⟩

set_option maxRecDepth 100000 in
set_option maxHeartbeats 4000000 in
theorem reck_mulk (op k s a b : Int) (bb off cap : Nat) (w : World) (hcap : 1 ≤ cap) (hlt : bb < w.heap.size) (c0 : w.cell? ⟨bb, off, none⟩ = some (.int .i64 a)) (c1 : w.cell? ⟨bb, off + 1, none⟩ = some (.int .i64 b)) (ho : op = 32) :
    Calls Tryz.prog 165 #[.int .i64 op, .int .i64 k, .int .i64 s, .slice (some ⟨bb, off, none⟩) 1 cap] w fun r w' => r = .returned (spV (cornZ (fun u v => valZ 10 0 0 [u, v]) a b k k)) ∧ Below w.heap.size w w' := by
  have R0 := Rk.start w op k s
  have d0 := (R0.bel.cell (p := ⟨bb, off, none⟩) hlt).trans c0
  have d1 := (R0.bel.cell (p := ⟨bb, off + 1, none⟩) hlt).trans c1
  have HR := hide R0
  clear R0 c0 c1
  have HC := hide fun (W' : World) => reck_corn 10 0 0 a b k k W'.heap.size 0 2 (W'.alloc (.cells #[.int .i64 a, .int .i64 b, .int .i64 k, .int .i64 k] 74)) (Nat.le_refl _) (by simp) (cells4 W' a b k k).1 (cells4 W' a b k k).2.1 (cells4 W' a b k k).2.2.1 (cells4 W' a b k k).2.2.2 (.inl rfl)
  obtain ⟨⟨⟨x, y⟩, e⟩, hZ⟩ : ∃ Z, cornZ (fun u v => valZ 10 0 0 [u, v]) a b k k = Z := ⟨_, rfl⟩
  rw [hZ] at HC ⊢
  clear hZ
  subst ho
  go_enter Tryz.func165, Tryz.ntmps165
  go_wp2_with fail
  obtain ⟨W, hW⟩ : ∃ W, ((((w.alloc (.cells #[.int .i64 32] 3)).alloc (.cells #[.int .i64 k] 3)).alloc (.cells #[.int .i64 s] 3)).alloc (.cells #[.int .i64 0, .int .i64 0] 74)) = W := ⟨_, rfl⟩
  rw [hW] at HR d0 d1 ⊢
  clear hW
  have hlW := World.block_lt_of_cell? W _ d0
  have d4 := HR.out.cap.k.cell 0 rfl
  go_region_held3 (fun w' => w'.cell? ⟨bb, off, none⟩ = some (.int .i64 a) ∧ w'.cell? ⟨bb, off + 1, none⟩ = some (.int .i64 b) ∧ w'.cell? ⟨w.heap.size + 1, 0, none⟩ = some (.int .i64 k))
    (first | exact ⟨t0, t1, t4⟩ | exact ⟨u0, u1, u4⟩ | exact ⟨(cell_old hl2).trans t0, (cell_old hl2).trans t1, (cell_old hl4).trans t4⟩ | exact ⟨far2 hlt (by omega) u0, far2 hlt (by omega) u1, far2 (Nat.lt_succ_self _) (by omega) u4⟩ | go_keep)
    ((first
      | (go_at_call 190; refine (alone_any _ _).mono ?_; rintro e' w2 ⟨rfl, hb2⟩; have t0 := (hb2.cell (p := ⟨bb, off, none⟩) hlW).trans d0; have t1 := (hb2.cell (p := ⟨bb, off + 1, none⟩) hlW).trans d1; have HR2 := hide (HR.out.drew.later hb2); have t4 := HR2.out.cap.k.cell 0 rfl; have hl2 := World.block_lt_of_cell? w2 _ t0; have hl4 := World.block_lt_of_cell? w2 _ t4)
      | (go_at_call 165; refine (HC.out _).mono ?_; rintro e' w3 ⟨rfl, hb3⟩; have hb4 := bel (bel1 _ _) hb3; have u0 := (hb4.cell (p := ⟨bb, off, none⟩) hl2).trans t0; have u1 := (hb4.cell (p := ⟨bb, off + 1, none⟩) hl2).trans t1; have HR9 := hide (HR2.out.later hb4); have u4 := HR9.out.cap.k.cell 0 rfl; obtain ⟨s1, s2, s3, s4⟩ := facts2 HR9.out.r)))
  go_wp2_with fail
  obtain ⟨d0, d1, hB4⟩ := stored2 HR9.out.r HR9.out.bel (by omega) x y
  exact bodyPost_ret (v := .tuple #[.agg #[.int .i64 x, .int .i64 y], .int .i64 e]) (by simp [results, Tryz.results165, go_sem, d0, d1]) rfl ⟨rfl, hB4⟩

end Go.Proofs.YtihbhbeaihdgnaaGreat.Spn
