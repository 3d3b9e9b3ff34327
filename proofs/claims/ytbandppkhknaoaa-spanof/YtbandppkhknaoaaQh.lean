/-
  The document's own functions of layer 5: plain, of one span.
-/
import Derived.Test.YtbandppkhknaoaaQc2
namespace Go.Proofs.Ytbandppkhknaoaa
open Go.RowKit Go.IntWalk Go.Sort
set_option linter.unusedVariables false
attribute [local go_sem] fld0 fld1

set_option maxRecDepth 100000 in
set_option maxHeartbeats 2000000 in
theorem qplain_5 (k s a b : Int) (bb off cap : Nat) (w : World) (hcap : 1 ≤ cap) (hlt : bb < w.heap.size) (c0 : w.cell? ⟨bb, off, none⟩ = some (.int .i64 a)) (c1 : w.cell? ⟨bb, off + 1, none⟩ = some (.int .i64 b)) (ha : W32 a) (hb : W32 b) :
    Calls Try.prog 25 #[.int .i64 5, .int .i64 k, .int .i64 s, .slice (some ⟨bb, off, none⟩) 1 cap] w fun e w' => e = .returned (spV ((-b, -a), 0)) ∧ Below w.heap.size w w' := by
  have d0 := (cell_old (o := cs 0 0) (i := off) hlt).trans c0
  have d1 := (cell_old (o := cs 0 0) (i := off + 1) hlt).trans c1
  have HB := hide (B3.start w 0 0 a b k k)
  clear c0 c1
  go_enter Try.func25, Try.ntmps25
  go_wp2_with fail
  exact bodyPost_ret (v := .tuple #[.agg #[.int .i64 (-b), .int .i64 (-a)], .int .i64 0]) (by simp [results, Try.results25, go_sem]) rfl ⟨rfl, bel3 _ _ _ _ _⟩

set_option maxRecDepth 100000 in
set_option maxHeartbeats 2000000 in
theorem qplain_6 (k s a b : Int) (bb off cap : Nat) (w : World) (hcap : 1 ≤ cap) (hlt : bb < w.heap.size) (c0 : w.cell? ⟨bb, off, none⟩ = some (.int .i64 a)) (c1 : w.cell? ⟨bb, off + 1, none⟩ = some (.int .i64 b)) (ha : W32 a) (hb : W32 b) :
    Calls Try.prog 25 #[.int .i64 6, .int .i64 k, .int .i64 s, .slice (some ⟨bb, off, none⟩) 1 cap] w fun e w' => e = .returned (spV (if hasB a b 0 = true then (0, max (max (max a b) (-a)) (-b)) else if 0 < a then (a, b) else (-b, -a), 0)) ∧ Below w.heap.size w w' := by
  have d0 := (cell_old (o := cs 0 0) (i := off) hlt).trans c0
  have d1 := (cell_old (o := cs 0 0) (i := off + 1) hlt).trans c1
  have HB := hide (B3.start w 0 0 a b k k)
  clear c0 c1
  have HH := fun w => hide (rhas_any a b 0 w)
  have HU0 := hull4 (((w.alloc (.cells #[.int .i64 0, .int .i64 0] 26)).alloc (.cells #[.int .i64 a, .int .i64 b] 26)).alloc (.cells #[.int .i64 k, .int .i64 k] 26)) a b (-a) (-b)
  simp only [World.size_alloc] at HU0
  have HU := hide HU0
  clear HU0
  obtain ⟨M, hM⟩ : ∃ M, max (max (max a b) (-a)) (-b) = M := ⟨_, rfl⟩
  obtain ⟨M', hM'⟩ : ∃ M, min (min (min a b) (-a)) (-b) = M := ⟨_, rfl⟩
  rw [hM, hM'] at HU
  rw [hM]
  clear hM hM'
  cases h0 : hasB a b 0
  · rw [h0] at HH
    rw [if_neg (by simp)]
    by_cases h1 : 0 < a
    · rw [if_pos h1]
      have e1 : decide (0 < a) = true := by simp; omega
      go_enter Try.func25, Try.ntmps25
      go_wp2_with fail
      refine HU.out.mono ?_
      rintro e w2 ⟨rfl, hb2⟩
      have HB2 := hide (HB.out.later (bel (bel1 _ (.cells #[.int .i64 a, .int .i64 b, .int .i64 (-a), .int .i64 (-b)] 3)) (by simpa using hb2)))
      clear hb2
      obtain ⟨u1, u2, -, -⟩ := facts2 HB2.out.b
      go_wp2_with fail
      refine (HH _).out.mono ?_
      rintro e w3 ⟨rfl, hb3⟩
      have HB3 := hide (HB2.out.later hb3)
      clear hb3 u1 u2
      obtain ⟨u1, u2, -, -⟩ := facts2 HB3.out.b
      obtain ⟨u5, u6, u7, u8⟩ := facts2 HB3.out.a
      go_wp2_with fail
      obtain ⟨f0, f1, hB4⟩ := stored2 HB3.out.a HB3.out.bel (Nat.le_refl _) a b
      exact bodyPost_ret (v := .tuple #[.agg #[.int .i64 a, .int .i64 b], .int .i64 0]) (by simp [results, Try.results25, go_sem, f0, f1]) rfl ⟨rfl, hB4⟩
    · rw [if_neg h1]
      have e1 : decide (0 < a) = false := by simp; omega
      go_enter Try.func25, Try.ntmps25
      go_wp2_with fail
      refine HU.out.mono ?_
      rintro e w2 ⟨rfl, hb2⟩
      have HB2 := hide (HB.out.later (bel (bel1 _ (.cells #[.int .i64 a, .int .i64 b, .int .i64 (-a), .int .i64 (-b)] 3)) (by simpa using hb2)))
      clear hb2
      obtain ⟨u1, u2, -, -⟩ := facts2 HB2.out.b
      go_wp2_with fail
      refine (HH _).out.mono ?_
      rintro e w3 ⟨rfl, hb3⟩
      have HB3 := hide (HB2.out.later hb3)
      clear hb3 u1 u2
      obtain ⟨u1, u2, -, -⟩ := facts2 HB3.out.b
      obtain ⟨u5, u6, u7, u8⟩ := facts2 HB3.out.a
      go_wp2_with fail
      obtain ⟨f0, f1, hB4⟩ := stored2 HB3.out.a HB3.out.bel (Nat.le_refl _) (-b) (-a)
      exact bodyPost_ret (v := .tuple #[.agg #[.int .i64 (-b), .int .i64 (-a)], .int .i64 0]) (by simp [results, Try.results25, go_sem, f0, f1]) rfl ⟨rfl, hB4⟩
  · rw [h0] at HH
    rw [if_pos rfl]
    go_enter Try.func25, Try.ntmps25
    go_wp2_with fail
    refine HU.out.mono ?_
    rintro e w2 ⟨rfl, hb2⟩
    have HB2 := hide (HB.out.later (bel (bel1 _ (.cells #[.int .i64 a, .int .i64 b, .int .i64 (-a), .int .i64 (-b)] 3)) (by simpa using hb2)))
    clear hb2
    obtain ⟨u1, u2, -, -⟩ := facts2 HB2.out.b
    go_wp2_with fail
    refine (HH _).out.mono ?_
    rintro e w3 ⟨rfl, hb3⟩
    have HB3 := hide (HB2.out.later hb3)
    clear hb3 u1 u2
    obtain ⟨u1, u2, -, -⟩ := facts2 HB3.out.b
    obtain ⟨u5, u6, u7, u8⟩ := facts2 HB3.out.a
    go_wp2_with fail
    obtain ⟨f0, f1, hB4⟩ := stored2 HB3.out.a HB3.out.bel (Nat.le_refl _) 0 M
    exact bodyPost_ret (v := .tuple #[.agg #[.int .i64 0, .int .i64 M], .int .i64 0]) (by simp [results, Try.results25, go_sem, f0, f1]) rfl ⟨rfl, hB4⟩

theorem lit1' (w : World) (t : TypeId) (x : Int) : Ints (w.alloc (.cells #[.int .i64 x] t)) (some ⟨w.heap.size, 0, none⟩) 1 1 [x] := by
  refine ⟨rfl, Nat.le_refl _, by decide, (fun h => by cases h), .inr ⟨_, _, rfl, fun i hi => ?_⟩⟩
  obtain rfl : i = 0 := by omega
  simp

set_option maxRecDepth 100000 in
set_option maxHeartbeats 2000000 in
theorem qplain_7 (k s a b : Int) (bb off cap : Nat) (w : World) (hcap : 1 ≤ cap) (hlt : bb < w.heap.size) (c0 : w.cell? ⟨bb, off, none⟩ = some (.int .i64 a)) (c1 : w.cell? ⟨bb, off + 1, none⟩ = some (.int .i64 b)) (ha : W32 a) (hb : W32 b) :
    Calls Try.prog 25 #[.int .i64 7, .int .i64 k, .int .i64 s, .slice (some ⟨bb, off, none⟩) 1 cap] w fun e w' => e = .returned (spV (((valZ 7 0 0 [a]).1, (valZ 7 0 0 [b]).1), 0)) ∧ Below w.heap.size w w' := by
  have d0 := (cell_old (o := cs 0 0) (i := off) hlt).trans c0
  have d1 := (cell_old (o := cs 0 0) (i := off + 1) hlt).trans c1
  have HB := hide (B3.start w 0 0 a b k k)
  clear c0 c1
  have V10 := rvalue_any 7 0 0 _ 1 1 _ _ (lit1' (((w.alloc (.cells #[.int .i64 0, .int .i64 0] 26)).alloc (.cells #[.int .i64 a, .int .i64 b] 26)).alloc (.cells #[.int .i64 k, .int .i64 k] 26)) 3 a)
  simp only [World.size_alloc] at V10
  have V1 := hide V10
  clear V10
  have V2 := fun W => hide (rvalue_any 7 0 0 _ 1 1 _ _ (lit1' W 3 b))
  obtain ⟨⟨z1, e1⟩, hz1⟩ : ∃ Z, valZ 7 0 0 [a] = Z := ⟨_, rfl⟩
  obtain ⟨⟨z2, e2⟩, hz2⟩ : ∃ Z, valZ 7 0 0 [b] = Z := ⟨_, rfl⟩
  rw [hz1] at V1
  rw [hz2] at V2
  rw [hz1, hz2]
  clear hz1 hz2
  go_enter Try.func25, Try.ntmps25
  go_wp2_with fail
  refine V1.out.mono ?_
  rintro e w2 ⟨rfl, hw2⟩
  have HB2 := hide (HB.out.later (bel1 _ (.cells #[.int .i64 a] 3)))
  rw [← hw2] at HB2
  clear hw2
  obtain ⟨u1, u2, -, -⟩ := facts2 HB2.out.b
  go_wp2_with fail
  refine (V2 _).out.mono ?_
  rintro e w3 ⟨rfl, hw3⟩
  have HB3 := hide (HB2.out.later (bel1 _ (.cells #[.int .i64 b] 3)))
  rw [← hw3] at HB3
  clear hw3
  obtain ⟨u5, u6, u7, u8⟩ := facts2 HB3.out.a
  go_wp2_with fail
  obtain ⟨f0, f1, hB4⟩ := stored2 HB3.out.a HB3.out.bel (Nat.le_refl _) z1 z2
  exact bodyPost_ret (v := .tuple #[.agg #[.int .i64 z1, .int .i64 z2], .int .i64 0]) (by simp [results, Try.results25, go_sem, f0, f1]) rfl ⟨rfl, hB4⟩

set_option maxRecDepth 100000 in
set_option maxHeartbeats 2000000 in
theorem qplain_29 (k s a b : Int) (bb off cap : Nat) (w : World) (hcap : 1 ≤ cap) (hlt : bb < w.heap.size) (c0 : w.cell? ⟨bb, off, none⟩ = some (.int .i64 a)) (c1 : w.cell? ⟨bb, off + 1, none⟩ = some (.int .i64 b)) (ha : W32 a) (hb : W32 b) (Z : Int × Int)
    (H : ∀ W, Calls Try.prog 41 #[.int .i64 13, .agg #[.int .i64 a, .int .i64 b], .agg #[.int .i64 k, .int .i64 k]] W fun e w' => e = .returned (.agg #[.int .i64 Z.1, .int .i64 Z.2]) ∧ Below W.heap.size W w') :
    Calls Try.prog 25 #[.int .i64 29, .int .i64 k, .int .i64 s, .slice (some ⟨bb, off, none⟩) 1 cap] w fun e w' => e = .returned (spV (Z, 0)) ∧ Below w.heap.size w w' := by
  have d0 := (cell_old (o := cs 0 0) (i := off) hlt).trans c0
  have d1 := (cell_old (o := cs 0 0) (i := off + 1) hlt).trans c1
  have HB := hide (B3.start w 0 0 a b k k)
  clear c0 c1
  have HC := fun W => hide (H W)
  clear H
  obtain ⟨x, y⟩ := Z
  go_enter Try.func25, Try.ntmps25
  go_wp2_with fail
  refine (HC _).out.mono ?_
  rintro e w2 ⟨rfl, hb2⟩
  have HB2 := hide (HB.out.later hb2)
  clear hb2
  obtain ⟨u5, u6, u7, u8⟩ := facts2 HB2.out.a
  go_wp2_with fail
  obtain ⟨f0, f1, hB4⟩ := stored2 HB2.out.a HB2.out.bel (Nat.le_refl _) x y
  exact bodyPost_ret (v := .tuple #[.agg #[.int .i64 x, .int .i64 y], .int .i64 0]) (by simp [results, Try.results25, go_sem, f0, f1]) rfl ⟨rfl, hB4⟩

set_option maxRecDepth 100000 in
set_option maxHeartbeats 2000000 in
theorem qplain_30 (k s a b : Int) (bb off cap : Nat) (w : World) (hcap : 1 ≤ cap) (hlt : bb < w.heap.size) (c0 : w.cell? ⟨bb, off, none⟩ = some (.int .i64 a)) (c1 : w.cell? ⟨bb, off + 1, none⟩ = some (.int .i64 b)) (ha : W32 a) (hb : W32 b) (Z : Int × Int)
    (H : ∀ W, Calls Try.prog 41 #[.int .i64 14, .agg #[.int .i64 a, .int .i64 b], .agg #[.int .i64 k, .int .i64 k]] W fun e w' => e = .returned (.agg #[.int .i64 Z.1, .int .i64 Z.2]) ∧ Below W.heap.size W w') :
    Calls Try.prog 25 #[.int .i64 30, .int .i64 k, .int .i64 s, .slice (some ⟨bb, off, none⟩) 1 cap] w fun e w' => e = .returned (spV (Z, 0)) ∧ Below w.heap.size w w' := by
  have d0 := (cell_old (o := cs 0 0) (i := off) hlt).trans c0
  have d1 := (cell_old (o := cs 0 0) (i := off + 1) hlt).trans c1
  have HB := hide (B3.start w 0 0 a b k k)
  clear c0 c1
  have HC := fun W => hide (H W)
  clear H
  obtain ⟨x, y⟩ := Z
  go_enter Try.func25, Try.ntmps25
  go_wp2_with fail
  refine (HC _).out.mono ?_
  rintro e w2 ⟨rfl, hb2⟩
  have HB2 := hide (HB.out.later hb2)
  clear hb2
  obtain ⟨u5, u6, u7, u8⟩ := facts2 HB2.out.a
  go_wp2_with fail
  obtain ⟨f0, f1, hB4⟩ := stored2 HB2.out.a HB2.out.bel (Nat.le_refl _) x y
  exact bodyPost_ret (v := .tuple #[.agg #[.int .i64 x, .int .i64 y], .int .i64 0]) (by simp [results, Try.results25, go_sem, f0, f1]) rfl ⟨rfl, hB4⟩

set_option maxRecDepth 100000 in
set_option maxHeartbeats 2000000 in
theorem qplain_31 (k s a b : Int) (bb off cap : Nat) (w : World) (hcap : 1 ≤ cap) (hlt : bb < w.heap.size) (c0 : w.cell? ⟨bb, off, none⟩ = some (.int .i64 a)) (c1 : w.cell? ⟨bb, off + 1, none⟩ = some (.int .i64 b)) (ha : W32 a) (hb : W32 b) (Z : Int × Int)
    (H : ∀ W, Calls Try.prog 42 #[.int .i64 15, .agg #[.int .i64 a, .int .i64 b], .agg #[.int .i64 k, .int .i64 k]] W fun e w' => e = .returned (.agg #[.int .i64 Z.1, .int .i64 Z.2]) ∧ Below W.heap.size W w') :
    Calls Try.prog 25 #[.int .i64 31, .int .i64 k, .int .i64 s, .slice (some ⟨bb, off, none⟩) 1 cap] w fun e w' => e = .returned (spV (Z, 0)) ∧ Below w.heap.size w w' := by
  have d0 := (cell_old (o := cs 0 0) (i := off) hlt).trans c0
  have d1 := (cell_old (o := cs 0 0) (i := off + 1) hlt).trans c1
  have HB := hide (B3.start w 0 0 a b k k)
  clear c0 c1
  have HC := fun W => hide (H W)
  clear H
  obtain ⟨x, y⟩ := Z
  go_enter Try.func25, Try.ntmps25
  go_wp2_with fail
  refine (HC _).out.mono ?_
  rintro e w2 ⟨rfl, hb2⟩
  have HB2 := hide (HB.out.later hb2)
  clear hb2
  obtain ⟨u5, u6, u7, u8⟩ := facts2 HB2.out.a
  go_wp2_with fail
  obtain ⟨f0, f1, hB4⟩ := stored2 HB2.out.a HB2.out.bel (Nat.le_refl _) x y
  exact bodyPost_ret (v := .tuple #[.agg #[.int .i64 x, .int .i64 y], .int .i64 0]) (by simp [results, Try.results25, go_sem, f0, f1]) rfl ⟨rfl, hB4⟩

set_option maxRecDepth 100000 in
set_option maxHeartbeats 2000000 in
theorem qplain_32 (k s a b : Int) (bb off cap : Nat) (w : World) (hcap : 1 ≤ cap) (hlt : bb < w.heap.size) (c0 : w.cell? ⟨bb, off, none⟩ = some (.int .i64 a)) (c1 : w.cell? ⟨bb, off + 1, none⟩ = some (.int .i64 b)) (ha : W32 a) (hb : W32 b) (Z : Int × Int)
    (H : ∀ W, Calls Try.prog 41 #[.int .i64 10, .agg #[.int .i64 a, .int .i64 b], .agg #[.int .i64 k, .int .i64 k]] W fun e w' => e = .returned (.agg #[.int .i64 Z.1, .int .i64 Z.2]) ∧ Below W.heap.size W w') :
    Calls Try.prog 25 #[.int .i64 32, .int .i64 k, .int .i64 s, .slice (some ⟨bb, off, none⟩) 1 cap] w fun e w' => e = .returned (spV (Z, 0)) ∧ Below w.heap.size w w' := by
  have d0 := (cell_old (o := cs 0 0) (i := off) hlt).trans c0
  have d1 := (cell_old (o := cs 0 0) (i := off + 1) hlt).trans c1
  have HB := hide (B3.start w 0 0 a b k k)
  clear c0 c1
  have HC := fun W => hide (H W)
  clear H
  obtain ⟨x, y⟩ := Z
  go_enter Try.func25, Try.ntmps25
  go_wp2_with fail
  refine (HC _).out.mono ?_
  rintro e w2 ⟨rfl, hb2⟩
  have HB2 := hide (HB.out.later hb2)
  clear hb2
  obtain ⟨u5, u6, u7, u8⟩ := facts2 HB2.out.a
  go_wp2_with fail
  obtain ⟨f0, f1, hB4⟩ := stored2 HB2.out.a HB2.out.bel (Nat.le_refl _) x y
  exact bodyPost_ret (v := .tuple #[.agg #[.int .i64 x, .int .i64 y], .int .i64 0]) (by simp [results, Try.results25, go_sem, f0, f1]) rfl ⟨rfl, hB4⟩

end Go.Proofs.Ytbandppkhknaoaa
