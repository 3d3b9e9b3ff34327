/-
  The document's own functions of layer 5: ends.
-/
import Derived.Test.YtbandppkhknaoaaQc2
namespace Go.Proofs.Ytbandppkhknaoaa
open Go.RowKit Go.IntWalk Go.Sort
set_option linter.unusedVariables false

/-- The memory of 'ends'. -/
structure E1 (w W : World) : Prop where
  r : HasC W w.heap.size 26 #[.int .i64 0, .int .i64 0]
  bel : Below w.heap.size w W
theorem E1.later {w W W' : World} (h : E1 w W) (hb : Below W.heap.size W W') : E1 w W' := ⟨h.r.below hb, h.bel.trans (hb.mono h.bel.size)⟩
theorem E1.start (w : World) : E1 w (w.alloc (cs 0 0)) := ⟨HasC.new w 26 #[.int .i64 0, .int .i64 0], bel1 _ _⟩

set_option maxHeartbeats 4000000 in
theorem qends_any (op x0 y0 x1 y1 x2 y2 : Int) (bb off cap : Nat) (w : World) (hcap : 3 ≤ cap) (hlt : bb < w.heap.size)
    (c0 : w.cell? ⟨bb, off, none⟩ = some (.int .i64 x0)) (c1 : w.cell? ⟨bb, off + 1, none⟩ = some (.int .i64 y0))
    (c2 : w.cell? ⟨bb, off + 2, none⟩ = some (.int .i64 x1)) (c3 : w.cell? ⟨bb, off + 2 + 1, none⟩ = some (.int .i64 y1))
    (c4 : w.cell? ⟨bb, off + 4, none⟩ = some (.int .i64 x2)) (c5 : w.cell? ⟨bb, off + 4 + 1, none⟩ = some (.int .i64 y2)) :
    Calls Try.prog 45 #[.int .i64 op, .slice (some ⟨bb, off, none⟩) 3 cap] w fun e w' => e = .returned (.agg #[.int .i64 (valZ op 0 0 [x0, x1, x2]).1, .int .i64 (valZ op 0 0 [y0, y1, y2]).1]) ∧ Below w.heap.size w w' := by
  have HE := hide (E1.start w)
  have HV1 := hide fun W => rvalue_any op 0 0 _ 3 3 _ _ ((lit3 W 3 x0 x1 x2).later (below_drew _))
  have HV2 := hide fun W => rvalue_any op 0 0 _ 3 3 _ _ ((lit3 W 3 y0 y1 y2).later (below_drew _))
  obtain ⟨⟨z1, e1⟩, hz1⟩ : ∃ Z, valZ op 0 0 [x0, x1, x2] = Z := ⟨_, rfl⟩
  obtain ⟨⟨z2, e2⟩, hz2⟩ : ∃ Z, valZ op 0 0 [y0, y1, y2] = Z := ⟨_, rfl⟩
  rw [hz1] at HV1
  rw [hz2] at HV2
  rw [hz1, hz2]
  clear hz1 hz2
  have hkeep : ∀ W, E1 w W → W.cell? ⟨bb, off, none⟩ = some (.int .i64 x0) ∧ W.cell? ⟨bb, off + 1, none⟩ = some (.int .i64 y0) ∧ W.cell? ⟨bb, off + 2, none⟩ = some (.int .i64 x1) ∧ W.cell? ⟨bb, off + 2 + 1, none⟩ = some (.int .i64 y1) ∧ W.cell? ⟨bb, off + 4, none⟩ = some (.int .i64 x2) ∧ W.cell? ⟨bb, off + 4 + 1, none⟩ = some (.int .i64 y2) := fun W h =>
    ⟨(h.bel.cell (p := ⟨bb, off, none⟩) hlt).trans c0, (h.bel.cell (p := ⟨bb, off + 1, none⟩) hlt).trans c1, (h.bel.cell (p := ⟨bb, off + 2, none⟩) hlt).trans c2, (h.bel.cell (p := ⟨bb, off + 2 + 1, none⟩) hlt).trans c3, (h.bel.cell (p := ⟨bb, off + 4, none⟩) hlt).trans c4, (h.bel.cell (p := ⟨bb, off + 4 + 1, none⟩) hlt).trans c5⟩
  have HK := hide hkeep
  clear hkeep c0 c1 c2 c3 c4 c5
  go_enter Try.func45, Try.ntmps45
  go_wp2_with fail
  obtain ⟨W, hW⟩ : ∃ W, w.alloc (.cells #[.int .i64 0, .int .i64 0] 26) = W := ⟨_, rfl⟩
  rw [hW] at HE ⊢
  clear hW
  obtain ⟨d0, d1, d2, d3, d4, d5⟩ := HK.out _ HE.out
  go_region_held3 (fun w' => w'.cell? ⟨bb, off, none⟩ = some (.int .i64 x0) ∧ w'.cell? ⟨bb, off + 1, none⟩ = some (.int .i64 y0) ∧ w'.cell? ⟨bb, off + 2, none⟩ = some (.int .i64 x1) ∧ w'.cell? ⟨bb, off + 2 + 1, none⟩ = some (.int .i64 y1) ∧ w'.cell? ⟨bb, off + 4, none⟩ = some (.int .i64 x2) ∧ w'.cell? ⟨bb, off + 4 + 1, none⟩ = some (.int .i64 y2))
    (first | exact ⟨d0, d1, d2, d3, d4, d5⟩ | exact HK.out _ (HE.out.later (bel1 _ _)) | exact HK.out _ (HE.out.later (bel (bel1 _ _) (below_drew _))) | go_keep)
    ((go_at_call 20; refine (HV1.out _).mono ?_; rintro e' w2 ⟨rfl, hw2⟩; have hq := hw2.symm; subst hq))
  have HE2 := hide (HE.out.later (bel (bel1 _ (.cells #[.int .i64 x0, .int .i64 x1, .int .i64 x2] 3)) (below_drew _)))
  obtain ⟨W2, hW2⟩ : ∃ W2, (W.alloc (.cells #[.int .i64 x0, .int .i64 x1, .int .i64 x2] 3)).drew = W2 := ⟨_, rfl⟩
  rw [hW2] at HE2 ⊢
  clear hw2 hW2 d0 d1 d2 d3 d4 d5 HE
  rename_i hHeld
  clear hHeld
  obtain ⟨f0, f1, f2, f3, f4, f5⟩ := HK.out _ HE2.out
  go_wp2_with fail
  go_region_held3 (fun w' => w'.cell? ⟨bb, off, none⟩ = some (.int .i64 x0) ∧ w'.cell? ⟨bb, off + 1, none⟩ = some (.int .i64 y0) ∧ w'.cell? ⟨bb, off + 2, none⟩ = some (.int .i64 x1) ∧ w'.cell? ⟨bb, off + 2 + 1, none⟩ = some (.int .i64 y1) ∧ w'.cell? ⟨bb, off + 4, none⟩ = some (.int .i64 x2) ∧ w'.cell? ⟨bb, off + 4 + 1, none⟩ = some (.int .i64 y2))
    (first | exact ⟨f0, f1, f2, f3, f4, f5⟩ | exact HK.out _ (HE2.out.later (bel1 _ _)) | exact HK.out _ (HE2.out.later (bel (bel1 _ _) (below_drew _))) | go_keep)
    ((go_at_call 20; refine (HV2.out _).mono ?_; rintro e' w2 ⟨rfl, hw2⟩; have hq := hw2.symm; subst hq))
  have HE3 := hide (HE2.out.later (bel (bel1 _ (.cells #[.int .i64 y0, .int .i64 y1, .int .i64 y2] 3)) (below_drew _)))
  obtain ⟨W3, hW3⟩ : ∃ W3, (W2.alloc (.cells #[.int .i64 y0, .int .i64 y1, .int .i64 y2] 3)).drew = W3 := ⟨_, rfl⟩
  rw [hW3] at HE3 ⊢
  rename_i hHeld
  clear hHeld
  clear hw2 hW3 f0 f1 f2 f3 f4 f5 HE2
  obtain ⟨s1, s2, s3, s4⟩ := facts2 HE3.out.r
  go_wp2_with fail
  obtain ⟨g0, g1, hB4⟩ := stored2 HE3.out.r HE3.out.bel (by omega) z1 z2
  exact bodyPost_ret (v := .agg #[.int .i64 z1, .int .i64 z2]) (by simp [results, Try.results45, go_sem, g0, g1]) rfl ⟨rfl, hB4⟩

end Go.Proofs.Ytbandppkhknaoaa
