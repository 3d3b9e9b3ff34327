/-
  The walks of span.divided, span.plain and span.reckoned.
-/
import Derived.Test.YtihbhbeaihdgnaaGreatRGI
namespace Go.Proofs.YtihbhbeaihdgnaaGreat.Spn
open Go.RowKit Go.IntWalk Go.Sort
set_option linter.unusedVariables false

/-- An answer: a span and an error. -/
abbrev spV (Z : (Int × Int) × Int) : Value := .tuple #[.agg #[.int .i64 Z.1.1, .int .i64 Z.1.2], .int .i64 Z.2]

/-- OpDiv and OpMod. -/
def divZ (f : Int → Int → Int × Int) (op a b c d : Int) : (Int × Int) × Int :=
  if hasB c d 0 = true then ((0, 0), 12) else if op = 11 then cornZ f a b c d else (leftZ a b c d, 0)

theorem sdivided_any (op k s a b c d : Int) (b1 b2 b3 : Nat) (w : World) (hc : Cap w b1 b2 b3 op k s) (f : Int → Int → Int × Int) (hf : ∀ u v, valZ op k s [u, v] = f u v)
    (ho : op = 11 ∨ op = 12) (ha : W32 a) (hb : W32 b) (hc' : W32 c) (hd : W32 d) :
    Calls Tryz.prog 192 #[.int .i64 op, .agg #[.int .i64 a, .int .i64 b], .agg #[.int .i64 c, .int .i64 d], .func (.func 189) #[] #[ptr b1, ptr b2, ptr b3]] w fun e w' =>
      e = .returned (spV (divZ f op a b c d)) ∧ Below w.heap.size w w' := by
  have HH := fun w => hide (has_any c d 0 w)
  have HC := hide hc
  have HF := hide hf
  clear hc hf
  cases h0 : hasB c d 0
  · rw [h0] at HH
    rcases ho with rfl | rfl
    · rw [show divZ f 11 a b c d = cornZ f a b c d by simp [divZ, h0]]
      clear h0
      go_enter Tryz.func192, Tryz.ntmps192
      go_wp2_with fail
      refine (HH _).out.mono ?_
      rintro e w2 ⟨rfl, hb2⟩
      obtain ⟨k1, k2, k3, hB⟩ := box2 hb2
      obtain ⟨q1, q2, -, -⟩ := facts2 k1
      obtain ⟨r1, r2, -, -⟩ := facts2 k2
      have HK3 := hide k3
      have HB2 := hide hB
      have CC := hide (corners_any 11 k s a b c d b1 b2 b3 w2 (HC.out.later hB) f HF.out)
      clear hb2 k1 k2 k3 hB
      unfold cornV at CC
      obtain ⟨⟨⟨x, y⟩, e⟩, hZ⟩ : ∃ Z, cornZ f a b c d = Z := ⟨_, rfl⟩
      rw [hZ] at CC
      have HZ := hide hZ
      clear hZ
      go_wp2_with fail
      refine CC.out.mono ?_
      rintro e' w3 ⟨rfl, hb3⟩
      have hR := HK3.out.below hb3
      have hB3 := bel HB2.out hb3
      obtain ⟨s1, s2, s3, s4⟩ := facts2 hR
      clear hb3
      go_wp2_with fail
      obtain ⟨d0, d1, hB4⟩ := stored2 hR hB3 (by omega) x y
      exact bodyPost_ret (v := .tuple #[.agg #[.int .i64 x, .int .i64 y], .int .i64 e]) (by simp [results, Tryz.results192, go_sem, d0, d1]) rfl ⟨by rw [HZ.out], hB4⟩
    · rw [show divZ f 12 a b c d = (leftZ a b c d, 0) by simp [divZ, h0]]
      clear h0
      have HLf := fun w => hide (left_any a b c d w ha hb hc' hd)
      generalize leftZ a b c d = Z at *
      obtain ⟨x, y⟩ := Z
      go_enter Tryz.func192, Tryz.ntmps192
      go_wp2_with fail
      refine (HH _).out.mono ?_
      rintro e w2 ⟨rfl, hb2⟩
      obtain ⟨k1, k2, k3, hB⟩ := box2 hb2
      obtain ⟨q1, q2, -, -⟩ := facts2 k1
      obtain ⟨r1, r2, -, -⟩ := facts2 k2
      have HK3 := hide k3
      have HB2 := hide hB
      clear hb2 k1 k2 k3 hB
      go_wp2_with fail
      refine (HLf _).out.mono ?_
      rintro e' w3 ⟨rfl, hb3⟩
      have hR := HK3.out.below hb3
      have hB3 := bel HB2.out hb3
      obtain ⟨s1, s2, s3, s4⟩ := facts2 hR
      clear hb3
      go_wp2_with fail
      obtain ⟨d0, d1, hB4⟩ := stored2 hR hB3 (by omega) x y
      exact bodyPost_ret (v := .tuple #[.agg #[.int .i64 x, .int .i64 y], .int .i64 0]) (by simp [results, Tryz.results192, go_sem, d0, d1]) rfl ⟨rfl, hB4⟩
  · rw [show divZ f op a b c d = ((0, 0), 12) by simp [divZ, h0]]
    rw [h0] at HH
    clear h0 ho
    go_enter Tryz.func192, Tryz.ntmps192
    go_wp2_with fail
    refine (HH _).out.mono ?_
    rintro e w2 ⟨rfl, hb2⟩
    obtain ⟨-, -, k3, hB⟩ := box2 hb2
    obtain ⟨s1, s2, s3, s4⟩ := facts2 k3
    clear hb2
    go_wp2_with fail
    obtain ⟨d0, d1, hB4⟩ := stored2 k3 hB (by omega) 0 0
    exact bodyPost_ret (v := .tuple #[.agg #[.int .i64 0, .int .i64 0], .int .i64 12]) (by simp [results, Tryz.results192, go_sem, d0, d1]) rfl ⟨rfl, hB4⟩

/-- The spans that are reckoned without asking for a value. -/
def plainZ (op : Int) (L : List (Int × Int)) : Int × Int :=
  if L.length = 1 then oneZ op (L.getD 0 (0, 0)).1 (L.getD 0 (0, 0)).2 else if L.length = 2 then twoZ op (L.getD 0 (0, 0)).1 (L.getD 0 (0, 0)).2 (L.getD 1 (0, 0)).1 (L.getD 1 (0, 0)).2
  else selZ (L.getD 0 (0, 0)).1 (L.getD 0 (0, 0)).2 (L.getD 1 (0, 0)).1 (L.getD 1 (0, 0)).2 (L.getD 2 (0, 0)).1 (L.getD 2 (0, 0)).2

theorem splain_1 (op a b : Int) (bb off cap : Nat) (w : World) (hcap : 1 ≤ cap) (hlt : bb < w.heap.size) (c0 : w.cell? ⟨bb, off, none⟩ = some (.int .i64 a)) (c1 : w.cell? ⟨bb, off + 1, none⟩ = some (.int .i64 b)) (ha : W32 a) (hb : W32 b) :
    Calls Tryz.prog 195 #[.int .i64 op, .slice (some ⟨bb, off, none⟩) 1 cap] w fun e w' => e = .returned (.agg #[.int .i64 (oneZ op a b).1, .int .i64 (oneZ op a b).2]) ∧ Below w.heap.size w w' := by
  have HA := fun w => hide (sofOne_any op a b w ha hb)
  generalize oneZ op a b = Z at *
  obtain ⟨x, y⟩ := Z
  have d0 := (cell_old (o := cs 0 0) (i := off) hlt).trans c0
  have d1 := (cell_old (o := cs 0 0) (i := off + 1) hlt).trans c1
  have HR := hide (HasC.new w 74 #[.int .i64 0, .int .i64 0])
  have HB := hide (bel1 w (cs 0 0))
  clear c0 c1
  go_enter Tryz.func195, Tryz.ntmps195
  go_wp2_with fail
  refine (HA _).out.mono ?_
  rintro e w2 ⟨rfl, hb2⟩
  have hR := HR.out.below hb2
  have hB := bel HB.out hb2
  obtain ⟨s1, s2, s3, s4⟩ := facts2 hR
  clear hb2
  go_wp2_with fail
  obtain ⟨d0, d1, hB4⟩ := stored2 hR hB (by omega) x y
  exact bodyPost_ret (v := .agg #[.int .i64 x, .int .i64 y]) (by simp [results, Tryz.results195, go_sem, d0, d1]) rfl ⟨rfl, hB4⟩

set_option maxRecDepth 100000 in
set_option maxHeartbeats 1000000 in
theorem splain_2 (op a b c d : Int) (bb off cap : Nat) (w : World) (hcap : 2 ≤ cap) (hlt : bb < w.heap.size) (c0 : w.cell? ⟨bb, off, none⟩ = some (.int .i64 a)) (c1 : w.cell? ⟨bb, off + 1, none⟩ = some (.int .i64 b))
    (c2 : w.cell? ⟨bb, off + 2, none⟩ = some (.int .i64 c)) (c3 : w.cell? ⟨bb, off + 2 + 1, none⟩ = some (.int .i64 d)) (ha : W32 a) (hb : W32 b) (hc : W32 c) (hd : W32 d) (ho : op = 8 ∨ op = 9 ∨ op = 15 ∨ op = 16 ∨ op = 17 ∨ op = 22 ∨ op = 23) :
    Calls Tryz.prog 195 #[.int .i64 op, .slice (some ⟨bb, off, none⟩) 2 cap] w fun e w' => e = .returned (.agg #[.int .i64 (twoZ op a b c d).1, .int .i64 (twoZ op a b c d).2]) ∧ Below w.heap.size w w' := by
  have HA := fun w => hide (sofTwo_any op a b c d w ha hb hc hd ho)
  generalize twoZ op a b c d = Z at *
  obtain ⟨x, y⟩ := Z
  have d0 := (cell_old (o := cs 0 0) (i := off) hlt).trans c0
  have d1 := (cell_old (o := cs 0 0) (i := off + 1) hlt).trans c1
  have d2 := (cell_old (o := cs 0 0) (i := off + 2) hlt).trans c2
  have d3 := (cell_old (o := cs 0 0) (i := off + 2 + 1) hlt).trans c3
  have HR := hide (HasC.new w 74 #[.int .i64 0, .int .i64 0])
  have HB := hide (bel1 w (cs 0 0))
  have HO := hide ho
  clear c0 c1 c2 c3 ho
  go_enter Tryz.func195, Tryz.ntmps195
  go_wp2_with fail
  have e0 := cell_regrown d0
  have e1 := cell_regrown d1
  have e2 := cell_regrown d2
  have e3 := cell_regrown d3
  refine wp_region_quiet_last_lit (hf := (List.dropLast_concat_getLast (by simp)).symm) mixed (by kernel_rfl) rfl (by kernel_rfl) (by kernel_rfl) (by kernel_rfl) (by kernel_rfl) (by kernel_rfl) ?_
  simp only [List.dropLast_cons_cons, List.dropLast_singleton, List.getLast_cons_cons, List.getLast_singleton]
  repeat (go_big_quiet_step ((go_at_call 227; exact Calls.regrown_of (HA _).out)))
  refine wpQuiet_nil ?_
  intro _ hw'
  obtain ⟨pq, hw''⟩ := hw'
  subst hw''
  have hb2 := below_regrown (w.alloc (cs 0 0)) pq.d pq.os
  have hR := HR.out.below hb2
  have hB := bel HB.out hb2
  clear hb2 d0 d1 d2 d3 e0 e1 e2 e3
  generalize grow (redrawn (w.alloc (.cells #[.int .i64 0, .int .i64 0] 74)) pq.d) pq.os = G at *
  obtain ⟨s1, s2, s3, s4⟩ := facts2 hR
  go_wp2_with fail
  obtain ⟨d0, d1, hB4⟩ := stored2 hR hB (by omega) x y
  exact bodyPost_ret (v := .agg #[.int .i64 x, .int .i64 y]) (by simp [results, Tryz.results195, go_sem, d0, d1]) rfl ⟨rfl, hB4⟩

set_option maxRecDepth 100000 in
set_option maxHeartbeats 1000000 in
theorem splain_3 (op a b c d e f : Int) (bb off cap : Nat) (w : World) (hcap : 3 ≤ cap) (hlt : bb < w.heap.size) (c0 : w.cell? ⟨bb, off, none⟩ = some (.int .i64 a)) (c1 : w.cell? ⟨bb, off + 1, none⟩ = some (.int .i64 b))
    (c2 : w.cell? ⟨bb, off + 2, none⟩ = some (.int .i64 c)) (c3 : w.cell? ⟨bb, off + 2 + 1, none⟩ = some (.int .i64 d)) (c4 : w.cell? ⟨bb, off + 4, none⟩ = some (.int .i64 e)) (c5 : w.cell? ⟨bb, off + 4 + 1, none⟩ = some (.int .i64 f)) :
    Calls Tryz.prog 195 #[.int .i64 op, .slice (some ⟨bb, off, none⟩) 3 cap] w fun r w' => r = .returned (.agg #[.int .i64 (selZ a b c d e f).1, .int .i64 (selZ a b c d e f).2]) ∧ Below w.heap.size w w' := by
  have HA := fun w => hide (schosen_any a b c d e f w)
  generalize selZ a b c d e f = Z at *
  obtain ⟨x, y⟩ := Z
  have d0 := (cell_old (o := cs 0 0) (i := off) hlt).trans c0
  have d1 := (cell_old (o := cs 0 0) (i := off + 1) hlt).trans c1
  have d2 := (cell_old (o := cs 0 0) (i := off + 2) hlt).trans c2
  have d3 := (cell_old (o := cs 0 0) (i := off + 2 + 1) hlt).trans c3
  have d4 := (cell_old (o := cs 0 0) (i := off + 4) hlt).trans c4
  have d5 := (cell_old (o := cs 0 0) (i := off + 4 + 1) hlt).trans c5
  have HR := hide (HasC.new w 74 #[.int .i64 0, .int .i64 0])
  have HB := hide (bel1 w (cs 0 0))
  clear c0 c1 c2 c3 c4 c5
  go_enter Tryz.func195, Tryz.ntmps195
  go_wp2_with fail
  have e0 := cell_regrown d0
  have e1 := cell_regrown d1
  have e2 := cell_regrown d2
  have e3 := cell_regrown d3
  have e4 := cell_regrown d4
  have e5 := cell_regrown d5
  refine wp_region_quiet_last_lit (hf := (List.dropLast_concat_getLast (by simp)).symm) mixed (by kernel_rfl) rfl (by kernel_rfl) (by kernel_rfl) (by kernel_rfl) (by kernel_rfl) (by kernel_rfl) ?_
  simp only [List.dropLast_cons_cons, List.dropLast_singleton, List.getLast_cons_cons, List.getLast_singleton]
  repeat (go_big_quiet_step ((go_at_call 228; exact Calls.regrown_of (HA _).out)))
  refine wpQuiet_nil ?_
  intro _ hw'
  obtain ⟨pq, hw''⟩ := hw'
  subst hw''
  have hb2 := below_regrown (w.alloc (cs 0 0)) pq.d pq.os
  have hR := HR.out.below hb2
  have hB := bel HB.out hb2
  clear hb2 d0 d1 d2 d3 d4 d5 e0 e1 e2 e3 e4 e5
  generalize grow (redrawn (w.alloc (.cells #[.int .i64 0, .int .i64 0] 74)) pq.d) pq.os = G at *
  obtain ⟨s1, s2, s3, s4⟩ := facts2 hR
  go_wp2_with fail
  obtain ⟨d0, d1, hB4⟩ := stored2 hR hB (by omega) x y
  exact bodyPost_ret (v := .agg #[.int .i64 x, .int .i64 y]) (by simp [results, Tryz.results195, go_sem, d0, d1]) rfl ⟨rfl, hB4⟩

end Go.Proofs.YtihbhbeaihdgnaaGreat.Spn
