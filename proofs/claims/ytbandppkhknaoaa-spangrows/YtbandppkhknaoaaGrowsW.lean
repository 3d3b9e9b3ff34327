/-
  The walk of SpanGrows.
-/
import Derived.Test.YtbandppkhknaoaaGrowP
import Derived.Test.YtbandppkhknaoaaEs
namespace Go.Proofs.Ytbandppkhknaoaa
open Go.RowKit Go.IntWalk Go.Sort
set_option linter.unusedVariables false

/-- One of six numbers. -/
def t6 (x0 x1 x2 x3 x4 x5 : Int) (i : Nat) : Int := if i = 0 then x0 else if i = 1 then x1 else if i = 2 then x2 else if i = 3 then x3 else if i = 4 then x4 else x5
/-- The narrower spans. -/
def nar (L : List (Int × Int)) (t : Nat → Int) (i : Nat) : Int × Int :=
  (min (ptZ (L.getD i (0, 0)).1 (L.getD i (0, 0)).2 (t (2 * i))) (ptZ (L.getD i (0, 0)).1 (L.getD i (0, 0)).2 (t (2 * i + 1))), max (ptZ (L.getD i (0, 0)).1 (L.getD i (0, 0)).2 (t (2 * i))) (ptZ (L.getD i (0, 0)).1 (L.getD i (0, 0)).2 (t (2 * i + 1))))
def nars (L : List (Int × Int)) (t : Nat → Int) (j : Nat) : List (Int × Int) := (List.range j).map (nar L t)
theorem nars_succ (L : List (Int × Int)) (t : Nat → Int) (j : Nat) : nars L t (j + 1) = nars L t j ++ [nar L t j] := by simp [nars, List.range_succ]
theorem sub_of_get : ∀ {L' L : List (Int × Int)}, L'.length = L.length → (∀ i, i < L.length → (L.getD i (0, 0)).1 ≤ (L'.getD i (0, 0)).1 ∧ (L'.getD i (0, 0)).1 ≤ (L'.getD i (0, 0)).2 ∧ (L'.getD i (0, 0)).2 ≤ (L.getD i (0, 0)).2) → Sub L' L
  | [], [], _, _ => trivial
  | [], _ :: _, h, _ => by simp at h
  | _ :: _, [], h, _ => by simp at h
  | p :: L, x :: xs, h, hg => ⟨by have := hg 0 (by simp); simpa using this, sub_of_get (by simpa using h) (fun i hi => by have := hg (i + 1) (by simp; omega); simpa using this)⟩
theorem nars_sub {L : List (Int × Int)} {t : Nat → Int} (h : ∀ p ∈ L, whB p.1 p.2 = true) : Sub (nars L t L.length) L := by
  refine sub_of_get (by simp [nars]) fun i hi => ?_
  have e : (nars L t L.length).getD i (0, 0) = nar L t i := by simp [nars, List.getD, hi]
  rw [e]
  have hw : whB (L.getD i (0, 0)).1 (L.getD i (0, 0)).2 = true := h _ (by simp [List.getD, hi])
  have h1 := ptZ_in (n := t (2 * i)) (whB_iff.1 hw).1
  have h2 := ptZ_in (n := t (2 * i + 1)) (whB_iff.1 hw).1
  unfold nar
  simp only
  omega

/-- The memory of SpanGrows behind the first call. -/
structure Gd (w W : World) (g : Nat) (op k s : Int) (a : Option Addr) (n cap : Nat) (L : List (Int × Int)) (x0 x1 x2 x3 x4 x5 lo hi : Int) : Prop where
  c : HasC W w.heap.size 24 (callC op k s a n cap)
  t : HasC W (w.heap.size + 1) 44 #[.int .i64 x0, .int .i64 x1, .int .i64 x2, .int .i64 x3, .int .i64 x4, .int .i64 x5]
  r : HasC W g 26 #[.int .i64 lo, .int .i64 hi]
  sp : Spans W a n cap L
  bel : Below w.heap.size w W
theorem Gd.later {w W W' : World} {g : Nat} {op k s : Int} {a : Option Addr} {n cap : Nat} {L : List (Int × Int)} {x0 x1 x2 x3 x4 x5 lo hi : Int} (h : Gd w W g op k s a n cap L x0 x1 x2 x3 x4 x5 lo hi) (hb : Below W.heap.size W W') : Gd w W' g op k s a n cap L x0 x1 x2 x3 x4 x5 lo hi :=
  ⟨h.c.below hb, h.t.below hb, h.r.below hb, h.sp.later hb, h.bel.trans (hb.mono h.bel.size)⟩
theorem Gd.cell {w W : World} {g : Nat} {op k s : Int} {a : Option Addr} {n cap : Nat} {L : List (Int × Int)} {x0 x1 x2 x3 x4 x5 lo hi : Int} (h : Gd w W g op k s a n cap L x0 x1 x2 x3 x4 x5 lo hi) {j : Nat} (hj : j < 6) : W.cell? ⟨w.heap.size + 1, j, none⟩ = some (.int .i64 (t6 x0 x1 x2 x3 x4 x5 j)) := by
  rcases (show j = 0 ∨ j = 1 ∨ j = 2 ∨ j = 3 ∨ j = 4 ∨ j = 5 by omega) with rfl | rfl | rfl | rfl | rfl | rfl
  · exact h.t.cell 0 rfl
  · exact h.t.cell 1 rfl
  · exact h.t.cell 2 rfl
  · exact h.t.cell 3 rfl
  · exact h.t.cell 4 rfl
  · exact h.t.cell 5 rfl

set_option maxRecDepth 100000 in
set_option maxHeartbeats 4000000 in
theorem grows_walk (op k s : Int) (a : Option Addr) (n cap : Nat) (L : List (Int × Int)) (x0 x1 x2 x3 x4 x5 : Int) (w : World) (h : Spans w a n cap L) :
    Calls Try.prog 6 #[.agg #[.int .i64 op, .int .i64 k, .int .i64 s, .slice a n cap], .agg #[.int .i64 x0, .int .i64 x1, .int .i64 x2, .int .i64 x3, .int .i64 x4, .int .i64 x5]] w fun e w' => e = .returned (.bool true) ∧ Below w.heap.size w w' := by
  have hC := (HasC.new w 24 (callC op k s a n cap)).alloc (.cells #[.int .i64 x0, .int .i64 x1, .int .i64 x2, .int .i64 x3, .int .i64 x4, .int .i64 x5] 44)
  have hT := HasC.new (w.alloc (.cells (callC op k s a n cap) 24)) 44 #[.int .i64 x0, .int .i64 x1, .int .i64 x2, .int .i64 x3, .int .i64 x4, .int .i64 x5]
  have hB : Below w.heap.size w ((w.alloc (.cells (callC op k s a n cap) 24)).alloc (.cells #[.int .i64 x0, .int .i64 x1, .int .i64 x2, .int .i64 x3, .int .i64 x4, .int .i64 x5] 44)) := ((Below.refl _ _).alloc (Nat.le_refl _) _).alloc (by simp) _
  simp only [World.size_alloc] at hT
  have HO := hide (of_any op k s a n cap L _ (h.later hB))
  obtain ⟨⟨⟨lo, hi⟩, e⟩, hZ⟩ : ∃ Z, ofZ op k s L = Z := ⟨_, rfl⟩
  rw [hZ] at HO
  have HZ := hide hZ
  have HC := hide hC
  have HT := hide hT
  have HB := hide hB
  have H := hide h
  clear hC hT hB h hZ
  go_enter Try.func6, Try.ntmps6
  go_wp2_with fail
  refine HO.out.mono ?_
  rintro e' w2 ⟨rfl, hb2⟩
  have HD := hide (⟨(HC.out.below hb2).alloc (cs lo hi), (HT.out.below hb2).alloc (cs lo hi), HasC.new w2 26 #[.int .i64 lo, .int .i64 hi], H.out.later (bel (bel HB.out hb2) (bel1 _ _)), bel (bel HB.out hb2) (bel1 _ _)⟩ : Gd w (w2.alloc (cs lo hi)) w2.heap.size op k s a n cap L x0 x1 x2 x3 x4 x5 lo hi)
  clear hb2 HC HT HB H HO
  go_wp2_with fail
  obtain ⟨W, hW⟩ : ∃ W, w2.alloc (.cells #[.int .i64 lo, .int .i64 hi] 26) = W := ⟨_, rfl⟩
  rw [hW] at HD ⊢
  clear hW
  refine (awake_any _).mono ?_
  rintro e' w3 ⟨rfl, hb3⟩
  have HD3 := hide (HD.out.later hb3)
  clear hb3 HD
  by_cases he : e = 0
  · subst he
    obtain ⟨hm, hr, hw⟩ := ofZ_inv HZ.out
    obtain ⟨m2, m1, m3, m4, m5⟩ := smay_inv hm
    have HM := hide m4
    have hlen := HD3.out.sp.len
    have hn3 : n ≤ 3 := by omega
    have HL := hide hlen
    clear hm hr hw m2 m1 m3 m4 m5 hlen
    go_wp2_with fail
    go_loopw [7, 8] (fun v i wr => ∃ j : Nat, j ≤ n ∧ i = .int .i64 j ∧ Es w3 wr v j (nars L (t6 x0 x1 x2 x3 x4 x5) j)) (fun _ i _ => n - (intOf i).toNat)
    case atStart => exact ⟨0, by omega, rfl, Es.start w3⟩
    case round =>
      rename_i wr
      obtain ⟨j, hj, rfl, hen⟩ := hrel
      have HEN := hide hen
      clear hen
      have HD4 := hide (HD3.out.later HEN.out.bel)
      obtain ⟨q0, q1, q2, q3⟩ := facts4 HD4.out.c
      by_cases hlt : j < n
      · have hd1 : decide ((j : Int) < (n : Int)) = true := by simp; omega
        have hd2 : decide ((j : Int) < 3) = true := by simp; omega
        obtain ⟨bb, off, rfl, hbb, hcell⟩ := HD4.out.sp.at (by omega)
        obtain ⟨g1, g2⟩ := hcell j hlt
        clear hcell
        obtain ⟨⟨x, y⟩, hxy⟩ : ∃ p, L.getD j (0, 0) = p := ⟨_, rfl⟩
        rw [hxy] at g1 g2
        have hwh : whB x y = true := by
          have h1 := HM.out (L.getD j (0, 0)) (by simp [List.getD, HL.out, hlt])
          rw [hxy] at h1
          exact h1
        have HXY := hide hxy
        clear hxy
        have HWW := fun w => hide (rwhole_any x y w)
        rw [hwh] at HWW
        have HWH := hide hwh
        clear hwh
        have hj0 : (0 : Int) ≤ (j : Int) := by omega
        have hj1 : (j : Int) < (n : Int) := by omega
        have hj2 : (j : Int) < 3 := by omega
        go_wp2_with fail
        refine (HWW _).out.mono ?_
        rintro e' w4 ⟨rfl, hb4⟩
        have HEN4 := hide (HEN.out.later hb4)
        have HD5 := hide (HD4.out.later hb4)
        have g3 := (hb4.cell (p := ⟨bb, off + j * 2, none⟩) hbb).trans g1
        have g4 := (hb4.cell (p := ⟨bb, off + j * 2 + 1, none⟩) hbb).trans g2
        clear hb4 HD4 HEN q0 q1 q2 q3 g1 g2
        obtain ⟨q0, q1, q2, q3⟩ := facts4 HD5.out.c
        have q4 := HD5.out.cell (j := 2 * j) (by omega)
        have q5 := HD5.out.cell (j := 2 * j + 1) (by omega)
        obtain ⟨z, hz⟩ : ∃ z, t6 x0 x1 x2 x3 x4 x5 (2 * j) = z := ⟨_, rfl⟩
        obtain ⟨z', hz'⟩ : ∃ z, t6 x0 x1 x2 x3 x4 x5 (2 * j + 1) = z := ⟨_, rfl⟩
        rw [hz] at q4
        rw [hz'] at q5
        have HZZ := hide hz
        have HZZ' := hide hz'
        clear hz hz'
        go_wp2_with fail
        have r0 := cell_regrown q3
        have r1 := cell_regrown g3
        have r2 := cell_regrown g4
        have r3 := cell_regrown q4
        have r4 := cell_regrown q5
        refine wp_region_quiet_below mixed (by kernel_rfl) ?_
        repeat (go_big_quiet_step ((go_at_call 17; exact Calls.regrown_of (point_any _ _ _ _ HWH.out))))
        refine wpQuiet_nil ?_
        intro _ hw'
        obtain ⟨pq, hw''⟩ := hw'
        subst hw''
        have HEN5 := hide (HEN4.out.later (below_regrown w4 pq.d pq.os))
        clear r0 r1 r2 r3 r4 q0 q1 q2 q3 q4 q5 g3 g4 HEN4 HD5 hbb
        generalize grow (redrawn w4 pq.d) pq.os = G at *
        obtain ⟨P1, hP1⟩ : ∃ P, ptZ x y z = P := ⟨_, rfl⟩
        obtain ⟨P2, hP2⟩ : ∃ P, ptZ x y z' = P := ⟨_, rfl⟩
        rw [hP1, hP2]
        have HP1 := hide hP1
        have HP2 := hide hP2
        clear hP1 hP2
        by_cases hsw : P2 < P1
        · have hd3 : decide (P2 < P1) = true := by simp [hsw]
          go_wp2_with (at_builtin; refine list_span rfl _ _ rfl (by rfl) (HEN5.out.alloc _) _ P2 P1 (by rfl) (HasC.new _ 26 _) (by omega) ?_; intro g cap1 w6 hen6 hsz6; have HEN6 := hide hen6; clear hen6 hsz6)
          go_roundw
          case rel =>
            refine ⟨j + 1, by omega, by go_num, ?_⟩
            rw [nars_succ, show nar L (t6 x0 x1 x2 x3 x4 x5) j = (P2, P1) by unfold nar; rw [HXY.out, HZZ.out, HZZ'.out]; simp only; rw [HP1.out, HP2.out, show min P1 P2 = P2 by omega, show max P1 P2 = P1 by omega]]
            exact HEN6.out
          case measure => simp [intOf]; omega
        · have hd3 : decide (P2 < P1) = false := by simp; omega
          go_wp2_with (at_builtin; refine list_span rfl _ _ rfl (by rfl) (HEN5.out.alloc _) _ P1 P2 (by rfl) (HasC.new _ 26 _) (by omega) ?_; intro g cap1 w6 hen6 hsz6; have HEN6 := hide hen6; clear hen6 hsz6)
          go_roundw
          case rel =>
            refine ⟨j + 1, by omega, by go_num, ?_⟩
            rw [nars_succ, show nar L (t6 x0 x1 x2 x3 x4 x5) j = (P1, P2) by unfold nar; rw [HXY.out, HZZ.out, HZZ'.out]; simp only; rw [HP1.out, HP2.out, show min P1 P2 = P1 by omega, show max P1 P2 = P2 by omega]]
            exact HEN6.out
          case measure => simp [intOf]; omega
      · obtain rfl : j = n := by omega
        have hd1 : decide ((j : Int) < (j : Int)) = false := by simp
        have hsub : Sub (nars L (t6 x0 x1 x2 x3 x4 x5) L.length) L := nars_sub HM.out
        rw [HL.out] at hsub
        obtain ⟨lo', hi', hv, hv1, hv2⟩ := grows_all HZ.out hsub
        obtain ⟨a1, c1, rfl, hI1⟩ := Spans.of_owns HEN.out.a (by simp [nars])
        have CV := of_any op k s a1 j c1 _ wr hI1
        rw [hv] at CV
        have HCV := hide CV
        clear hI1 hsub hv CV HEN
        have e1 : decide (lo ≤ lo') = true := by simp [hv1]
        have e2 : decide (hi' ≤ hi) = true := by simp [hv2]
        go_wp2_with fail
        refine HCV.out.mono ?_
        rintro e' w5 ⟨rfl, hb5⟩
        have HD6 := hide (HD4.out.later (bel hb5 (bel1 _ (cs lo' hi'))))
        clear hb5 HD4 HCV q0 q1 q2 q3
        obtain ⟨r1, r2, -, -⟩ := facts2 HD6.out.r
        obtain ⟨n1, n2, -, -⟩ := facts2 (HasC.new w5 26 #[.int .i64 lo', .int .i64 hi'])
        go_wp2_with fail
        go_ret
        exact ⟨rfl, HD6.out.bel⟩
  · have he' : (e != 0) = true := by simp [he]
    clear he
    go_wp2_with fail
    refine (awake_any _).mono ?_
    rintro e' w4 ⟨rfl, hb4⟩
    have HD4 := hide (HD3.out.later hb4)
    clear hb4 HD3
    go_wp2_with fail
    go_ret
    exact ⟨rfl, HD4.out.bel⟩

end Go.Proofs.Ytbandppkhknaoaa
