/-
  The document's own functions of layer 5: paired at OpMin and OpMax.
-/
import Derived.Test.YtbandppkhknaoaaQc2
namespace Go.Proofs.Ytbandppkhknaoaa
open Go.RowKit Go.IntWalk Go.Sort
set_option linter.unusedVariables false
attribute [local go_sem] fld0 fld1

theorem hullI2 (p : Option Addr) (x y : Int) (w : World) (h : Ints w p 2 2 [x, y]) : Calls Try.prog 40 #[.slice p 2 2] w fun e w' => e = .returned (.agg #[.int .i64 (min x y), .int .i64 (max x y)]) ∧ Below w.heap.size w w' := by
  have h' := hull_any _ 2 2 _ _ h (by decide) (by decide)
  rw [(h2 x y).1, (h2 x y).2] at h'
  exact h'
theorem lit2s (W : World) (o : Obj) (x y : Int) : Ints ((W.alloc o).alloc (.cells #[.int .i64 x, .int .i64 y] 3)) (some ⟨W.heap.size + 1, 0, none⟩) 2 2 [x, y] := by
  have h := lit2 (W.alloc o) 3 x y
  simpa only [World.size_alloc] using h
theorem cell_old2 {W : World} {o o' : Obj} {b i : Nat} (h : b < W.heap.size) : ((W.alloc o).alloc o').cell? ⟨b, i, none⟩ = W.cell? ⟨b, i, none⟩ := (bel (bel1 W o) (bel1 _ o')).cell (p := ⟨b, i, none⟩) h

set_option maxRecDepth 100000 in
set_option maxHeartbeats 4000000 in
theorem qpair_24 (a b c d : Int) (w : World) : Calls Try.prog 46 #[.int .i64 24, .agg #[.int .i64 a, .int .i64 b], .agg #[.int .i64 c, .int .i64 d]] w fun e w' => e = .returned (spV ((min a c, min b d), 0)) ∧ Below w.heap.size w w' := by
  have HB := hide (B3.start w a b c d 0 0)
  go_enter Try.func46, Try.ntmps46
  go_wp2_with fail
  obtain ⟨W, hW⟩ : ∃ W, ((w.alloc (.cells #[.int .i64 a, .int .i64 b] 26)).alloc (.cells #[.int .i64 c, .int .i64 d] 26)).alloc (.cells #[.int .i64 0, .int .i64 0] 26) = W := ⟨_, rfl⟩
  rw [hW] at HB ⊢
  clear hW
  obtain ⟨d0, d1, -, -⟩ := facts2 HB.out.a
  obtain ⟨d2, d3, -, -⟩ := facts2 HB.out.b
  have hl0 := HB.out.a.lt
  have hl2 := HB.out.b.lt
  have hl3 := HB.out.r.lt
  go_region_held3 (fun w' => w'.cell? ⟨w.heap.size, 0, none⟩ = some (.int .i64 a) ∧ w'.cell? ⟨w.heap.size, 1, none⟩ = some (.int .i64 b) ∧ w'.cell? ⟨w.heap.size + 1, 0, none⟩ = some (.int .i64 c) ∧ w'.cell? ⟨w.heap.size + 1, 1, none⟩ = some (.int .i64 d))
    (first | exact ⟨d0, d1, d2, d3⟩ | exact ⟨v0, v1, v2, v3⟩ | exact ⟨t0, t1, t2, t3⟩ | exact ⟨(cell_old hl0).trans d0, (cell_old hl0).trans d1, (cell_old hl2).trans d2, (cell_old hl2).trans d3⟩ | exact ⟨(cell_old kl0).trans t0, (cell_old kl0).trans t1, (cell_old kl2).trans t2, (cell_old kl2).trans t3⟩ | exact ⟨(cell_old2 hl0).trans d0, (cell_old2 hl0).trans d1, (cell_old2 hl2).trans d2, (cell_old2 hl2).trans d3⟩ | exact ⟨far2 (Nat.lt_succ_self _) (by omega) v0, far2 (Nat.lt_succ_self _) (by omega) v1, far2 (Nat.lt_succ_self _) (by omega) v2, far2 (Nat.lt_succ_self _) (by omega) v3⟩ | go_keep)
    (first
      | (go_at_call 40; refine (hullI2 _ a c _ ?_).mono ?_; (first | exact (lit2 W 3 a c).later (below_drew _) | exact ((lit2 W 3 a c).later (bel1 _ _)).later (below_drew _) | exact (lit2s W _ a c).later (below_drew _)); rintro e' w2 ⟨rfl, hb2⟩; have HB9 := hide ((by first | exact HB.out.later (bel (bel (bel1 _ _) (below_drew _)) hb2) | exact HB.out.later (bel (bel (bel (bel1 _ _) (bel1 _ _)) (below_drew _)) hb2) : B3 w w2 a b c d 0 0)); obtain ⟨t0, t1, -, -⟩ := facts2 HB9.out.a; obtain ⟨t2, t3, -, -⟩ := facts2 HB9.out.b; have kl0 := HB9.out.a.lt; have kl2 := HB9.out.b.lt)
      | (go_at_call 40; refine (hullI2 _ b d _ ?_).mono ?_; (first | exact lit2 _ 3 b d | exact (((lit2 W 3 b d).later (bel1 _ _)).later (below_drew _)).later hb2 | exact ((lit2s W _ b d).later (below_drew _)).later hb2); rintro e' w3 ⟨rfl, hb3⟩; have HB10 := hide ((by first | exact HB9.out.later hb3 | exact HB9.out.later (bel (bel1 _ _) hb3) : B3 w w3 a b c d 0 0)); obtain ⟨v0, v1, -, -⟩ := facts2 HB10.out.a; obtain ⟨v2, v3, -, -⟩ := facts2 HB10.out.b; obtain ⟨s1, s2, s3, s4⟩ := facts2 HB10.out.r))
  all_goals
    go_wp2_with fail
    obtain ⟨e0, e1, hB4⟩ := stored2 HB10.out.r HB10.out.bel (by omega) (min a c) (min b d)
    exact bodyPost_ret (v := .tuple #[.agg #[.int .i64 (min a c), .int .i64 (min b d)], .int .i64 0]) (by simp [results, Try.results46, go_sem, e0, e1]) rfl ⟨rfl, hB4⟩

set_option maxRecDepth 100000 in
set_option maxHeartbeats 4000000 in
theorem qpair_25 (a b c d : Int) (w : World) : Calls Try.prog 46 #[.int .i64 25, .agg #[.int .i64 a, .int .i64 b], .agg #[.int .i64 c, .int .i64 d]] w fun e w' => e = .returned (spV ((max a c, max b d), 0)) ∧ Below w.heap.size w w' := by
  have HB := hide (B3.start w a b c d 0 0)
  go_enter Try.func46, Try.ntmps46
  go_wp2_with fail
  obtain ⟨W, hW⟩ : ∃ W, ((w.alloc (.cells #[.int .i64 a, .int .i64 b] 26)).alloc (.cells #[.int .i64 c, .int .i64 d] 26)).alloc (.cells #[.int .i64 0, .int .i64 0] 26) = W := ⟨_, rfl⟩
  rw [hW] at HB ⊢
  clear hW
  obtain ⟨d0, d1, -, -⟩ := facts2 HB.out.a
  obtain ⟨d2, d3, -, -⟩ := facts2 HB.out.b
  have hl0 := HB.out.a.lt
  have hl2 := HB.out.b.lt
  have hl3 := HB.out.r.lt
  go_region_held3 (fun w' => w'.cell? ⟨w.heap.size, 0, none⟩ = some (.int .i64 a) ∧ w'.cell? ⟨w.heap.size, 1, none⟩ = some (.int .i64 b) ∧ w'.cell? ⟨w.heap.size + 1, 0, none⟩ = some (.int .i64 c) ∧ w'.cell? ⟨w.heap.size + 1, 1, none⟩ = some (.int .i64 d))
    (first | exact ⟨d0, d1, d2, d3⟩ | exact ⟨v0, v1, v2, v3⟩ | exact ⟨t0, t1, t2, t3⟩ | exact ⟨(cell_old hl0).trans d0, (cell_old hl0).trans d1, (cell_old hl2).trans d2, (cell_old hl2).trans d3⟩ | exact ⟨(cell_old kl0).trans t0, (cell_old kl0).trans t1, (cell_old kl2).trans t2, (cell_old kl2).trans t3⟩ | exact ⟨(cell_old2 hl0).trans d0, (cell_old2 hl0).trans d1, (cell_old2 hl2).trans d2, (cell_old2 hl2).trans d3⟩ | exact ⟨far2 (Nat.lt_succ_self _) (by omega) v0, far2 (Nat.lt_succ_self _) (by omega) v1, far2 (Nat.lt_succ_self _) (by omega) v2, far2 (Nat.lt_succ_self _) (by omega) v3⟩ | go_keep)
    (first
      | (go_at_call 40; refine (hullI2 _ a c _ ?_).mono ?_; (first | exact (lit2 W 3 a c).later (below_drew _) | exact ((lit2 W 3 a c).later (bel1 _ _)).later (below_drew _) | exact (lit2s W _ a c).later (below_drew _)); rintro e' w2 ⟨rfl, hb2⟩; have HB9 := hide ((by first | exact HB.out.later (bel (bel (bel1 _ _) (below_drew _)) hb2) | exact HB.out.later (bel (bel (bel (bel1 _ _) (bel1 _ _)) (below_drew _)) hb2) : B3 w w2 a b c d 0 0)); obtain ⟨t0, t1, -, -⟩ := facts2 HB9.out.a; obtain ⟨t2, t3, -, -⟩ := facts2 HB9.out.b; have kl0 := HB9.out.a.lt; have kl2 := HB9.out.b.lt)
      | (go_at_call 40; refine (hullI2 _ b d _ ?_).mono ?_; (first | exact lit2 _ 3 b d | exact (((lit2 W 3 b d).later (bel1 _ _)).later (below_drew _)).later hb2 | exact ((lit2s W _ b d).later (below_drew _)).later hb2); rintro e' w3 ⟨rfl, hb3⟩; have HB10 := hide ((by first | exact HB9.out.later hb3 | exact HB9.out.later (bel (bel1 _ _) hb3) : B3 w w3 a b c d 0 0)); obtain ⟨v0, v1, -, -⟩ := facts2 HB10.out.a; obtain ⟨v2, v3, -, -⟩ := facts2 HB10.out.b; obtain ⟨s1, s2, s3, s4⟩ := facts2 HB10.out.r))
  all_goals
    go_wp2_with fail
    obtain ⟨e0, e1, hB4⟩ := stored2 HB10.out.r HB10.out.bel (by omega) (max a c) (max b d)
    exact bodyPost_ret (v := .tuple #[.agg #[.int .i64 (max a c), .int .i64 (max b d)], .int .i64 0]) (by simp [results, Try.results46, go_sem, e0, e1]) rfl ⟨rfl, hB4⟩

end Go.Proofs.Ytbandppkhknaoaa
