/-
  The document's own functions of layer 5: plain, of two and of three spans.
-/
import Derived.Test.YtbandppkhknaoaaQg
import Derived.Test.YtbandppkhknaoaaQi
namespace Go.Proofs.Ytbandppkhknaoaa
open Go.RowKit Go.IntWalk Go.Sort
set_option linter.unusedVariables false
attribute [local go_sem] fld0 fld1

set_option maxRecDepth 100000 in
set_option maxHeartbeats 2000000 in
theorem qplain_26 (k s a b c d e f : Int) (bb off cap : Nat) (w : World) (hcap : 3 ≤ cap) (hlt : bb < w.heap.size) (c0 : w.cell? ⟨bb, off, none⟩ = some (.int .i64 a)) (c1 : w.cell? ⟨bb, off + 1, none⟩ = some (.int .i64 b))
    (c2 : w.cell? ⟨bb, off + 2, none⟩ = some (.int .i64 c)) (c3 : w.cell? ⟨bb, off + 2 + 1, none⟩ = some (.int .i64 d))
    (c4 : w.cell? ⟨bb, off + 4, none⟩ = some (.int .i64 e)) (c5 : w.cell? ⟨bb, off + 4 + 1, none⟩ = some (.int .i64 f)) :
    Calls Try.prog 25 #[.int .i64 26, .int .i64 k, .int .i64 s, .slice (some ⟨bb, off, none⟩) 3 cap] w fun r w' => r = .returned (spV (((valZ 26 0 0 [a, c, e]).1, (valZ 26 0 0 [b, d, f]).1), 0)) ∧ Below w.heap.size w w' := by
  have d0 := (cell_old (o := cs 0 0) (i := off) hlt).trans c0
  have d1 := (cell_old (o := cs 0 0) (i := off + 1) hlt).trans c1
  have HB := hide (B3.start w 0 0 a b k k)
  have hkeep : ∀ W, B3 w W 0 0 a b k k → W.cell? ⟨bb, off, none⟩ = some (.int .i64 a) ∧ W.cell? ⟨bb, off + 1, none⟩ = some (.int .i64 b) ∧ W.cell? ⟨bb, off + 2, none⟩ = some (.int .i64 c) ∧ W.cell? ⟨bb, off + 2 + 1, none⟩ = some (.int .i64 d) ∧ W.cell? ⟨bb, off + 4, none⟩ = some (.int .i64 e) ∧ W.cell? ⟨bb, off + 4 + 1, none⟩ = some (.int .i64 f) := fun W h => ⟨(h.bel.cell (p := ⟨bb, off, none⟩) hlt).trans c0, (h.bel.cell (p := ⟨bb, off + 1, none⟩) hlt).trans c1, (h.bel.cell (p := ⟨bb, off + 2, none⟩) hlt).trans c2, (h.bel.cell (p := ⟨bb, off + 2 + 1, none⟩) hlt).trans c3, (h.bel.cell (p := ⟨bb, off + 4, none⟩) hlt).trans c4, (h.bel.cell (p := ⟨bb, off + 4 + 1, none⟩) hlt).trans c5⟩
  have HK := hide hkeep
  clear hkeep c0 c1 c2 c3 c4 c5
  have HE := hide fun (W : World) (h : B3 w W 0 0 a b k k) => qends_any 26 a b c d e f bb off cap W hcap (by have := h.bel.size; omega) (HK.out W h).1 (HK.out W h).2.1 (HK.out W h).2.2.1 (HK.out W h).2.2.2.1 (HK.out W h).2.2.2.2.1 (HK.out W h).2.2.2.2.2
  obtain ⟨x, hx⟩ : ∃ x, (valZ 26 0 0 [a, c, e]).1 = x := ⟨_, rfl⟩
  obtain ⟨y, hy⟩ : ∃ y, (valZ 26 0 0 [b, d, f]).1 = y := ⟨_, rfl⟩
  rw [hx, hy] at HE ⊢
  clear hx hy
  go_enter Try.func25, Try.ntmps25
  go_wp2_with fail
  refine (HE.out _ HB.out).mono ?_
  rintro e' w2 ⟨rfl, hb2⟩
  have HB2 := hide (HB.out.later hb2)
  clear hb2
  obtain ⟨u5, u6, u7, u8⟩ := facts2 HB2.out.a
  go_wp2_with fail
  obtain ⟨f0, f1, hB4⟩ := stored2 HB2.out.a HB2.out.bel (Nat.le_refl _) x y
  exact bodyPost_ret (v := .tuple #[.agg #[.int .i64 x, .int .i64 y], .int .i64 0]) (by simp [results, Try.results25, go_sem, f0, f1]) rfl ⟨rfl, hB4⟩

set_option maxRecDepth 100000 in
set_option maxHeartbeats 2000000 in
theorem qplain_27 (k s a b c d e f : Int) (bb off cap : Nat) (w : World) (hcap : 3 ≤ cap) (hlt : bb < w.heap.size) (c0 : w.cell? ⟨bb, off, none⟩ = some (.int .i64 a)) (c1 : w.cell? ⟨bb, off + 1, none⟩ = some (.int .i64 b))
    (c2 : w.cell? ⟨bb, off + 2, none⟩ = some (.int .i64 c)) (c3 : w.cell? ⟨bb, off + 2 + 1, none⟩ = some (.int .i64 d))
    (c4 : w.cell? ⟨bb, off + 4, none⟩ = some (.int .i64 e)) (c5 : w.cell? ⟨bb, off + 4 + 1, none⟩ = some (.int .i64 f)) :
    Calls Try.prog 25 #[.int .i64 27, .int .i64 k, .int .i64 s, .slice (some ⟨bb, off, none⟩) 3 cap] w fun r w' => r = .returned (spV (((valZ 27 0 0 [a, c, e]).1, (valZ 27 0 0 [b, d, f]).1), 0)) ∧ Below w.heap.size w w' := by
  have d0 := (cell_old (o := cs 0 0) (i := off) hlt).trans c0
  have d1 := (cell_old (o := cs 0 0) (i := off + 1) hlt).trans c1
  have HB := hide (B3.start w 0 0 a b k k)
  have hkeep : ∀ W, B3 w W 0 0 a b k k → W.cell? ⟨bb, off, none⟩ = some (.int .i64 a) ∧ W.cell? ⟨bb, off + 1, none⟩ = some (.int .i64 b) ∧ W.cell? ⟨bb, off + 2, none⟩ = some (.int .i64 c) ∧ W.cell? ⟨bb, off + 2 + 1, none⟩ = some (.int .i64 d) ∧ W.cell? ⟨bb, off + 4, none⟩ = some (.int .i64 e) ∧ W.cell? ⟨bb, off + 4 + 1, none⟩ = some (.int .i64 f) := fun W h => ⟨(h.bel.cell (p := ⟨bb, off, none⟩) hlt).trans c0, (h.bel.cell (p := ⟨bb, off + 1, none⟩) hlt).trans c1, (h.bel.cell (p := ⟨bb, off + 2, none⟩) hlt).trans c2, (h.bel.cell (p := ⟨bb, off + 2 + 1, none⟩) hlt).trans c3, (h.bel.cell (p := ⟨bb, off + 4, none⟩) hlt).trans c4, (h.bel.cell (p := ⟨bb, off + 4 + 1, none⟩) hlt).trans c5⟩
  have HK := hide hkeep
  clear hkeep c0 c1 c2 c3 c4 c5
  have HE := hide fun (W : World) (h : B3 w W 0 0 a b k k) => qends_any 27 a b c d e f bb off cap W hcap (by have := h.bel.size; omega) (HK.out W h).1 (HK.out W h).2.1 (HK.out W h).2.2.1 (HK.out W h).2.2.2.1 (HK.out W h).2.2.2.2.1 (HK.out W h).2.2.2.2.2
  obtain ⟨x, hx⟩ : ∃ x, (valZ 27 0 0 [a, c, e]).1 = x := ⟨_, rfl⟩
  obtain ⟨y, hy⟩ : ∃ y, (valZ 27 0 0 [b, d, f]).1 = y := ⟨_, rfl⟩
  rw [hx, hy] at HE ⊢
  clear hx hy
  go_enter Try.func25, Try.ntmps25
  go_wp2_with fail
  refine (HE.out _ HB.out).mono ?_
  rintro e' w2 ⟨rfl, hb2⟩
  have HB2 := hide (HB.out.later hb2)
  clear hb2
  obtain ⟨u5, u6, u7, u8⟩ := facts2 HB2.out.a
  go_wp2_with fail
  obtain ⟨f0, f1, hB4⟩ := stored2 HB2.out.a HB2.out.bel (Nat.le_refl _) x y
  exact bodyPost_ret (v := .tuple #[.agg #[.int .i64 x, .int .i64 y], .int .i64 0]) (by simp [results, Try.results25, go_sem, f0, f1]) rfl ⟨rfl, hB4⟩

set_option maxRecDepth 100000 in
set_option maxHeartbeats 2000000 in
theorem qplain_28 (k s a b c d e f : Int) (bb off cap : Nat) (w : World) (hcap : 3 ≤ cap) (hlt : bb < w.heap.size) (c0 : w.cell? ⟨bb, off, none⟩ = some (.int .i64 a)) (c1 : w.cell? ⟨bb, off + 1, none⟩ = some (.int .i64 b))
    (c2 : w.cell? ⟨bb, off + 2, none⟩ = some (.int .i64 c)) (c3 : w.cell? ⟨bb, off + 2 + 1, none⟩ = some (.int .i64 d))
    (c4 : w.cell? ⟨bb, off + 4, none⟩ = some (.int .i64 e)) (c5 : w.cell? ⟨bb, off + 4 + 1, none⟩ = some (.int .i64 f)) :
    Calls Try.prog 25 #[.int .i64 28, .int .i64 k, .int .i64 s, .slice (some ⟨bb, off, none⟩) 3 cap] w fun r w' => r = .returned (spV ((if hasB a b 0 = true then (if a = 0 ∧ b = 0 then (e, f) else (min (min (min c d) e) f, max (max (max c d) e) f)) else (c, d)), 0)) ∧ Below w.heap.size w w' := by
  have d0 := (cell_old (o := cs 0 0) (i := off) hlt).trans c0
  have d1 := (cell_old (o := cs 0 0) (i := off + 1) hlt).trans c1
  have HB := hide (B3.start w 0 0 a b k k)
  have hkeep : ∀ W, B3 w W 0 0 a b k k → W.cell? ⟨bb, off, none⟩ = some (.int .i64 a) ∧ W.cell? ⟨bb, off + 1, none⟩ = some (.int .i64 b) ∧ W.cell? ⟨bb, off + 2, none⟩ = some (.int .i64 c) ∧ W.cell? ⟨bb, off + 2 + 1, none⟩ = some (.int .i64 d) ∧ W.cell? ⟨bb, off + 4, none⟩ = some (.int .i64 e) ∧ W.cell? ⟨bb, off + 4 + 1, none⟩ = some (.int .i64 f) := fun W h => ⟨(h.bel.cell (p := ⟨bb, off, none⟩) hlt).trans c0, (h.bel.cell (p := ⟨bb, off + 1, none⟩) hlt).trans c1, (h.bel.cell (p := ⟨bb, off + 2, none⟩) hlt).trans c2, (h.bel.cell (p := ⟨bb, off + 2 + 1, none⟩) hlt).trans c3, (h.bel.cell (p := ⟨bb, off + 4, none⟩) hlt).trans c4, (h.bel.cell (p := ⟨bb, off + 4 + 1, none⟩) hlt).trans c5⟩
  have HK := hide hkeep
  clear hkeep c0 c1 c2 c3 c4 c5
  have HH := fun w => hide (rhas_any a b 0 w)
  cases h0 : hasB a b 0
  · rw [h0] at HH
    rw [if_neg (by simp)]
    go_enter Try.func25, Try.ntmps25
    go_wp2_with fail
    refine (HH _).out.mono ?_
    rintro e' w2 ⟨rfl, hb2⟩
    have HB2 := hide (HB.out.later hb2)
    clear hb2 d0 d1
    obtain ⟨u1, u2, -, -⟩ := facts2 HB2.out.b
    obtain ⟨u5, u6, u7, u8⟩ := facts2 HB2.out.a
    obtain ⟨d0, d1, d2, d3, d4, d5⟩ := HK.out _ HB2.out
    go_wp2_with fail
    obtain ⟨f0, f1, hB4⟩ := stored2 HB2.out.a HB2.out.bel (Nat.le_refl _) c d
    exact bodyPost_ret (v := .tuple #[.agg #[.int .i64 c, .int .i64 d], .int .i64 0]) (by simp [results, Try.results25, go_sem, f0, f1]) rfl ⟨rfl, hB4⟩
  · rw [h0] at HH
    rw [if_pos rfl]
    by_cases h1 : a = 0
    · subst h1
      by_cases h2 : b = 0
      · subst h2
        rw [if_pos ⟨rfl, rfl⟩]
        go_enter Try.func25, Try.ntmps25
        go_wp2_with fail
        refine (HH _).out.mono ?_
        rintro e' w2 ⟨rfl, hb2⟩
        have HB2 := hide (HB.out.later hb2)
        clear hb2 d0 d1
        obtain ⟨u1, u2, -, -⟩ := facts2 HB2.out.b
        obtain ⟨u5, u6, u7, u8⟩ := facts2 HB2.out.a
        obtain ⟨d0, d1, d2, d3, d4, d5⟩ := HK.out _ HB2.out
        go_wp2_with fail
        obtain ⟨f0, f1, hB4⟩ := stored2 HB2.out.a HB2.out.bel (Nat.le_refl _) e f
        exact bodyPost_ret (v := .tuple #[.agg #[.int .i64 e, .int .i64 f], .int .i64 0]) (by simp [results, Try.results25, go_sem, f0, f1]) rfl ⟨rfl, hB4⟩
      · have e2 : (b == 0) = false := by simp [h2]
        rw [if_neg (by omega)]
        clear h2
        have HU := fun W => hide (hull_any _ 4 4 _ _ ((lit4 W 3 c d e f).later (below_drew _)) (by decide) (by decide))
        simp only [(h4 c d e f).1, (h4 c d e f).2] at HU
        obtain ⟨x, hx⟩ : ∃ x, min (min (min c d) e) f = x := ⟨_, rfl⟩
        obtain ⟨y, hy⟩ : ∃ y, max (max (max c d) e) f = y := ⟨_, rfl⟩
        rw [hx, hy] at HU ⊢
        clear hx hy
        go_enter Try.func25, Try.ntmps25
        go_wp2_with fail
        refine (HH _).out.mono ?_
        rintro e' w2 ⟨rfl, hb2⟩
        have HB2 := hide (HB.out.later hb2)
        clear hb2 d0 d1
        obtain ⟨u1, u2, -, -⟩ := facts2 HB2.out.b
        obtain ⟨u5, u6, u7, u8⟩ := facts2 HB2.out.a
        obtain ⟨d0, d1, d2, d3, d4, d5⟩ := HK.out _ HB2.out
        go_wp2_with fail
        have hltW : w.heap.size < w2.heap.size := HB2.out.a.lt
        go_region_held3 (fun w' => w'.cell? ⟨bb, off + 2, none⟩ = some (.int .i64 c) ∧ w'.cell? ⟨bb, off + 2 + 1, none⟩ = some (.int .i64 d) ∧ w'.cell? ⟨bb, off + 4, none⟩ = some (.int .i64 e) ∧ w'.cell? ⟨bb, off + 4 + 1, none⟩ = some (.int .i64 f))
          (first | exact ⟨d2, d3, d4, d5⟩ | exact ⟨t2, t3, t4, t5⟩ | exact (HK.out _ (HB2.out.later (bel1 _ _))).2.2 | exact (HK.out _ (HB2.out.later (bel (bel1 _ _) (below_drew _)))).2.2 | exact ⟨far2 hlt (Nat.le_refl _) t2, far2 hlt (Nat.le_refl _) t3, far2 hlt (Nat.le_refl _) t4, far2 hlt (Nat.le_refl _) t5⟩ | go_keep)
          ((go_at_call 40; refine (HU _).out.mono ?_; rintro e' w3 ⟨rfl, hb3⟩; have HB3 := hide (HB2.out.later (bel (bel (bel1 _ _) (below_drew _)) hb3)); obtain ⟨-, -, t2, t3, t4, t5⟩ := HK.out _ HB3.out; obtain ⟨s1, s2, s3, s4⟩ := facts2 HB3.out.a))
        all_goals
          go_wp2_with fail
          obtain ⟨f0, f1, hB4⟩ := stored2 HB3.out.a HB3.out.bel (Nat.le_refl _) x y
          exact bodyPost_ret (v := .tuple #[.agg #[.int .i64 x, .int .i64 y], .int .i64 0]) (by simp [results, Try.results25, go_sem, f0, f1]) rfl ⟨rfl, hB4⟩
    · have e1 : (a == 0) = false := by simp [h1]
      rw [if_neg (by omega)]
      clear h1
      have HU := fun W => hide (hull_any _ 4 4 _ _ ((lit4 W 3 c d e f).later (below_drew _)) (by decide) (by decide))
      simp only [(h4 c d e f).1, (h4 c d e f).2] at HU
      obtain ⟨x, hx⟩ : ∃ x, min (min (min c d) e) f = x := ⟨_, rfl⟩
      obtain ⟨y, hy⟩ : ∃ y, max (max (max c d) e) f = y := ⟨_, rfl⟩
      rw [hx, hy] at HU ⊢
      clear hx hy
      go_enter Try.func25, Try.ntmps25
      go_wp2_with fail
      refine (HH _).out.mono ?_
      rintro e' w2 ⟨rfl, hb2⟩
      have HB2 := hide (HB.out.later hb2)
      clear hb2 d0 d1
      obtain ⟨u1, u2, -, -⟩ := facts2 HB2.out.b
      obtain ⟨u5, u6, u7, u8⟩ := facts2 HB2.out.a
      obtain ⟨d0, d1, d2, d3, d4, d5⟩ := HK.out _ HB2.out
      go_wp2_with fail
      have hltW : w.heap.size < w2.heap.size := HB2.out.a.lt
      go_region_held3 (fun w' => w'.cell? ⟨bb, off + 2, none⟩ = some (.int .i64 c) ∧ w'.cell? ⟨bb, off + 2 + 1, none⟩ = some (.int .i64 d) ∧ w'.cell? ⟨bb, off + 4, none⟩ = some (.int .i64 e) ∧ w'.cell? ⟨bb, off + 4 + 1, none⟩ = some (.int .i64 f))
        (first | exact ⟨d2, d3, d4, d5⟩ | exact ⟨t2, t3, t4, t5⟩ | exact (HK.out _ (HB2.out.later (bel1 _ _))).2.2 | exact (HK.out _ (HB2.out.later (bel (bel1 _ _) (below_drew _)))).2.2 | exact ⟨far2 hlt (Nat.le_refl _) t2, far2 hlt (Nat.le_refl _) t3, far2 hlt (Nat.le_refl _) t4, far2 hlt (Nat.le_refl _) t5⟩ | go_keep)
        ((go_at_call 40; refine (HU _).out.mono ?_; rintro e' w3 ⟨rfl, hb3⟩; have HB3 := hide (HB2.out.later (bel (bel (bel1 _ _) (below_drew _)) hb3)); obtain ⟨-, -, t2, t3, t4, t5⟩ := HK.out _ HB3.out; obtain ⟨s1, s2, s3, s4⟩ := facts2 HB3.out.a))
      all_goals
        go_wp2_with fail
        obtain ⟨f0, f1, hB4⟩ := stored2 HB3.out.a HB3.out.bel (Nat.le_refl _) x y
        exact bodyPost_ret (v := .tuple #[.agg #[.int .i64 x, .int .i64 y], .int .i64 0]) (by simp [results, Try.results25, go_sem, f0, f1]) rfl ⟨rfl, hB4⟩

set_option maxRecDepth 100000 in
set_option maxHeartbeats 2000000 in
theorem qplain_two (k s a b c d : Int) (bb off cap : Nat) (w : World) (hcap : 2 ≤ cap) (hlt : bb < w.heap.size) (c0 : w.cell? ⟨bb, off, none⟩ = some (.int .i64 a)) (c1 : w.cell? ⟨bb, off + 1, none⟩ = some (.int .i64 b))
    (c2 : w.cell? ⟨bb, off + 2, none⟩ = some (.int .i64 c)) (c3 : w.cell? ⟨bb, off + 2 + 1, none⟩ = some (.int .i64 d)) (op : Int) (Z : (Int × Int) × Int) (ho : 8 ≤ op ∧ op ≤ 25)
    (H : ∀ W, Calls Try.prog 46 #[.int .i64 op, .agg #[.int .i64 a, .int .i64 b], .agg #[.int .i64 c, .int .i64 d]] W fun r w' => r = .returned (spV Z) ∧ Below W.heap.size W w') :
    Calls Try.prog 25 #[.int .i64 op, .int .i64 k, .int .i64 s, .slice (some ⟨bb, off, none⟩) 2 cap] w fun r w' => r = .returned (spV Z) ∧ Below w.heap.size w w' := by
  have d0 := (cell_old (o := cs 0 0) (i := off) hlt).trans c0
  have d1 := (cell_old (o := cs 0 0) (i := off + 1) hlt).trans c1
  have HB := hide (B3.start w 0 0 a b k k)
  have hkeep : ∀ W, B3 w W 0 0 a b k k → W.cell? ⟨bb, off, none⟩ = some (.int .i64 a) ∧ W.cell? ⟨bb, off + 1, none⟩ = some (.int .i64 b) ∧ W.cell? ⟨bb, off + 2, none⟩ = some (.int .i64 c) ∧ W.cell? ⟨bb, off + 2 + 1, none⟩ = some (.int .i64 d) := fun W h => ⟨(h.bel.cell (p := ⟨bb, off, none⟩) hlt).trans c0, (h.bel.cell (p := ⟨bb, off + 1, none⟩) hlt).trans c1, (h.bel.cell (p := ⟨bb, off + 2, none⟩) hlt).trans c2, (h.bel.cell (p := ⟨bb, off + 2 + 1, none⟩) hlt).trans c3⟩
  have HK := hide hkeep
  clear hkeep c0 c1 c2 c3
  have HP := fun W => hide (H W)
  clear H
  obtain ⟨⟨x, y⟩, e⟩ := Z
  have n5 : (op == 5) = false := by simp; omega
  have n6 : (op == 6) = false := by simp; omega
  have n7 : (op == 7) = false := by simp; omega
  have n29 : (op == 29) = false := by simp; omega
  have n30 : (op == 30) = false := by simp; omega
  have n31 : (op == 31) = false := by simp; omega
  have n32 : (op == 32) = false := by simp; omega
  have n33 : (op == 33) = false := by simp; omega
  have n26 : (op == 26) = false := by simp; omega
  have n27 : (op == 27) = false := by simp; omega
  have n28 : (op == 28) = false := by simp; omega
  go_enter Try.func25, Try.ntmps25
  go_wp2_with fail
  obtain ⟨W, hW⟩ : ∃ W, ((w.alloc (.cells #[.int .i64 0, .int .i64 0] 26)).alloc (.cells #[.int .i64 a, .int .i64 b] 26)).alloc (.cells #[.int .i64 k, .int .i64 k] 26) = W := ⟨_, rfl⟩
  rw [hW] at HB ⊢
  clear hW
  clear d0 d1
  obtain ⟨d0, d1, d2, d3⟩ := HK.out _ HB.out
  obtain ⟨u1, u2, -, -⟩ := facts2 HB.out.b
  go_region_held3 (fun w' => w'.cell? ⟨bb, off + 2, none⟩ = some (.int .i64 c) ∧ w'.cell? ⟨bb, off + 2 + 1, none⟩ = some (.int .i64 d) ∧ w'.cell? ⟨w.heap.size + 1, 0, none⟩ = some (.int .i64 a) ∧ w'.cell? ⟨w.heap.size + 1, 1, none⟩ = some (.int .i64 b))
    (first | exact ⟨d2, d3, u1, u2⟩ | exact ⟨t2, t3, v1, v2⟩ | exact ⟨far2 hlt (Nat.le_refl _) t2, far2 hlt (Nat.le_refl _) t3, far1 v1, far1 v2⟩ | go_keep)
    ((go_at_call 46; refine (HP _).out.mono ?_; rintro e' w3 ⟨rfl, hb3⟩; have HB3 := hide (HB.out.later (bel (below_drew _) hb3)); obtain ⟨-, -, t2, t3⟩ := HK.out _ HB3.out; obtain ⟨v1, v2, -, -⟩ := facts2 HB3.out.b; obtain ⟨s1, s2, s3, s4⟩ := facts2 HB3.out.a))
  all_goals
    go_wp2_with fail
    obtain ⟨f0, f1, hB4⟩ := stored2 HB3.out.a HB3.out.bel (Nat.le_refl _) x y
    exact bodyPost_ret (v := .tuple #[.agg #[.int .i64 x, .int .i64 y], .int .i64 e]) (by simp [results, Try.results25, go_sem, f0, f1]) rfl ⟨rfl, hB4⟩

end Go.Proofs.Ytbandppkhknaoaa
