/-
  The walk of SpanHolds.
-/
import Derived.Test.YtbandppkhknaoaaHoldR
namespace Go.Proofs.Ytbandppkhknaoaa
open Go.RowKit Go.IntWalk Go.Sort
set_option linter.unusedVariables false

/-- One of three numbers. -/
def t3 (x0 x1 x2 : Int) (i : Nat) : Int := if i = 0 then x0 else if i = 1 then x1 else x2

/-- The memory of SpanHolds behind the first call. -/
structure Hd (w W : World) (g : Nat) (op k s : Int) (a : Option Addr) (n cap : Nat) (L : List (Int × Int)) (x0 x1 x2 lo hi : Int) : Prop where
  c : HasC W w.heap.size 24 (callC op k s a n cap)
  t : HasC W (w.heap.size + 1) 38 #[.int .i64 x0, .int .i64 x1, .int .i64 x2]
  r : HasC W g 26 #[.int .i64 lo, .int .i64 hi]
  sp : Spans W a n cap L
  bel : Below w.heap.size w W
theorem Hd.later {w W W' : World} {g : Nat} {op k s : Int} {a : Option Addr} {n cap : Nat} {L : List (Int × Int)} {x0 x1 x2 lo hi : Int} (h : Hd w W g op k s a n cap L x0 x1 x2 lo hi) (hb : Below W.heap.size W W') : Hd w W' g op k s a n cap L x0 x1 x2 lo hi :=
  ⟨h.c.below hb, h.t.below hb, h.r.below hb, h.sp.later hb, h.bel.trans (hb.mono h.bel.size)⟩
theorem Hd.cell {w W : World} {g : Nat} {op k s : Int} {a : Option Addr} {n cap : Nat} {L : List (Int × Int)} {x0 x1 x2 lo hi : Int} (h : Hd w W g op k s a n cap L x0 x1 x2 lo hi) {j : Nat} (hj : j < 3) : W.cell? ⟨w.heap.size + 1, j, none⟩ = some (.int .i64 (t3 x0 x1 x2 j)) := by
  rcases (show j = 0 ∨ j = 1 ∨ j = 2 by omega) with rfl | rfl | rfl
  · exact h.t.cell 0 rfl
  · exact h.t.cell 1 rfl
  · exact h.t.cell 2 rfl

set_option maxRecDepth 100000 in
set_option maxHeartbeats 4000000 in
theorem holds_walk (op k s : Int) (a : Option Addr) (n cap : Nat) (L : List (Int × Int)) (x0 x1 x2 : Int) (w : World) (h : Spans w a n cap L) :
    Calls Try.prog 5 #[.agg #[.int .i64 op, .int .i64 k, .int .i64 s, .slice a n cap], .agg #[.int .i64 x0, .int .i64 x1, .int .i64 x2]] w fun e w' => e = .returned (.bool true) ∧ Below w.heap.size w w' := by
  have hC := (HasC.new w 24 (callC op k s a n cap)).alloc (.cells #[.int .i64 x0, .int .i64 x1, .int .i64 x2] 38)
  have hT := HasC.new (w.alloc (.cells (callC op k s a n cap) 24)) 38 #[.int .i64 x0, .int .i64 x1, .int .i64 x2]
  have hB : Below w.heap.size w ((w.alloc (.cells (callC op k s a n cap) 24)).alloc (.cells #[.int .i64 x0, .int .i64 x1, .int .i64 x2] 38)) := ((Below.refl _ _).alloc (Nat.le_refl _) _).alloc (by simp) _
  simp only [World.size_alloc] at hT
  have HO := hide (of_any op k s a n cap L _ (h.later hB))
  obtain ⟨⟨⟨lo, hi⟩, e⟩, hZ⟩ : ∃ Z, ofZ op k s L = Z := ⟨_, rfl⟩
  rw [hZ] at HO
  have HZ := hide hZ
  have HC := hide hC
  have HT := hide hT
  have HB := hide hB
  have H := hide h
  clear hC hT hB h hZ
  go_enter Try.func5, Try.ntmps5
  go_wp2_with fail
  refine HO.out.mono ?_
  rintro e' w2 ⟨rfl, hb2⟩
  have HD := hide (⟨(HC.out.below hb2).alloc (cs lo hi), (HT.out.below hb2).alloc (cs lo hi), HasC.new w2 26 #[.int .i64 lo, .int .i64 hi], H.out.later (bel (bel HB.out hb2) (bel1 _ _)), bel (bel HB.out hb2) (bel1 _ _)⟩ : Hd w (w2.alloc (cs lo hi)) w2.heap.size op k s a n cap L x0 x1 x2 lo hi)
  clear hb2 HC HT HB H HO
  go_wp2_with fail
  obtain ⟨W, hW⟩ : ∃ W, w2.alloc (.cells #[.int .i64 lo, .int .i64 hi] 26) = W := ⟨_, rfl⟩
  rw [hW] at HD ⊢
  clear hW
  refine (awake_any _).mono ?_
  rintro e' w3 ⟨rfl, hb3⟩
  have HD3 := hide (HD.out.later hb3)
  clear hb3 HD
  by_cases he : e = 0
  · subst he
    obtain ⟨hm, hr, hw⟩ := ofZ_inv HZ.out
    obtain ⟨m2, m1, m3, m4, m5⟩ := smay_inv hm
    have HM := hide m4
    have HWh := hide hw
    have hlen := HD3.out.sp.len
    have hn3 : n ≤ 3 := by omega
    have HL := hide hlen
    clear hm hr hw m2 m1 m3 m4 m5 hlen
    go_wp2_with fail
    go_loopw [7, 8] (fun v i wr => ∃ j : Nat, j ≤ n ∧ i = .int .i64 j ∧ En1 w3 wr v j (pts L (t3 x0 x1 x2) j)) (fun _ i _ => n - (intOf i).toNat)
    case atStart => exact ⟨0, by omega, rfl, En1.start w3⟩
    case round =>
      rename_i wr
      obtain ⟨j, hj, rfl, hen⟩ := hrel
      have HEN := hide hen
      clear hen
      have HD4 := hide (HD3.out.later HEN.out.bel)
      obtain ⟨q0, q1, q2, q3⟩ := facts4 HD4.out.c
      by_cases hlt : j < n
      · have hd1 : decide ((j : Int) < (n : Int)) = true := by simp; omega
        have hd2 : decide ((j : Int) < 3) = true := by simp; omega
        obtain ⟨bb, off, rfl, hbb, hcell⟩ := HD4.out.sp.at (by omega)
        obtain ⟨g1, g2⟩ := hcell j hlt
        clear hcell
        obtain ⟨⟨x, y⟩, hxy⟩ : ∃ p, L.getD j (0, 0) = p := ⟨_, rfl⟩
        rw [hxy] at g1 g2
        have hwh : whB x y = true := by
          have h1 := HM.out (L.getD j (0, 0)) (by simp [List.getD, HL.out, hlt])
          rw [hxy] at h1
          exact h1
        have HXY := hide hxy
        clear hxy
        have HWW := fun w => hide (rwhole_any x y w)
        rw [hwh] at HWW
        have HWH := hide hwh
        clear hwh
        have hj0 : (0 : Int) ≤ (j : Int) := by omega
        have hj1 : (j : Int) < (n : Int) := by omega
        have hj2 : (j : Int) < 3 := by omega
        go_wp2_with fail
        refine (HWW _).out.mono ?_
        rintro e' w4 ⟨rfl, hb4⟩
        have HEN4 := hide (HEN.out.later hb4)
        have HD5 := hide (HD4.out.later hb4)
        have g3 := (hb4.cell (p := ⟨bb, off + j * 2, none⟩) hbb).trans g1
        have g4 := (hb4.cell (p := ⟨bb, off + j * 2 + 1, none⟩) hbb).trans g2
        clear hb4 HD4 HEN q0 q1 q2 q3 g1 g2
        obtain ⟨q0, q1, q2, q3⟩ := facts4 HD5.out.c
        have q4 := HD5.out.cell (j := j) (by omega)
        go_wp2_with fail
        obtain ⟨z, hz⟩ : ∃ z, t3 x0 x1 x2 j = z := ⟨_, rfl⟩
        rw [hz] at q4
        have HZZ := hide hz
        clear hz
        have hlc := HD5.out.c.lt
        have hlt2 := HD5.out.t.lt
        have hlb := World.block_lt_of_cell? w4 _ g3
        go_region_held3 (fun w' => w'.cell? ⟨w.heap.size, 3, none⟩ = some (.slice (some ⟨bb, off, none⟩) n cap) ∧ w'.cell? ⟨bb, off + j * 2, none⟩ = some (.int .i64 x) ∧ w'.cell? ⟨bb, off + j * 2 + 1, none⟩ = some (.int .i64 y) ∧ w'.cell? ⟨w.heap.size + 1, j, none⟩ = some (.int .i64 z))
          (first | exact ⟨t0, t1, t2, t3'⟩ | exact ⟨u0, u1, u2, u3⟩ | go_keep)
          (first
            | (go_at_call 17; refine (point_any x y z _ HWH.out).mono ?_; rintro e' w5 ⟨rfl, hb5⟩; have t0 := (hb5.cell (p := ⟨w.heap.size, 3, none⟩) hlc).trans q3; have t1 := (hb5.cell (p := ⟨bb, off + j * 2, none⟩) hlb).trans g3; have t2 := (hb5.cell (p := ⟨bb, off + j * 2 + 1, none⟩) hlb).trans g4; have t3' := (hb5.cell (p := ⟨w.heap.size + 1, j, none⟩) hlt2).trans q4; have HEN5 := hide (HEN4.out.drew.later hb5))
            | (refine step_a (by rfl) _ _ (by rfl) (by rfl) (by exact HEN5.out.alloc _) _ (ptZ x y z) (by rfl) (by simp) (by omega) ?_; intro g cap1 w6 hen6 hk6 hsz6; have HD6 := hide (HD3.out.later hen6.bel); obtain ⟨bb', off', he', -, hc'⟩ := HD6.out.sp.at (by omega); cases he'; obtain ⟨u1, u2⟩ := hc' j hlt; rw [HXY.out] at u1 u2; have u0 := HD6.out.c.cell 3 rfl; have u3 := HD6.out.cell (j := j) (by omega); rw [HZZ.out] at u3; clear hc'))
        clear hk6 hsz6 t0 t1 t2 t3' u0 u1 u2 u3 q0 q1 q2 q3 q4 g3 g4 HEN4 HEN5 HD5 hlb hlc hlt2 hbb
        have HEN6 := hide hen6
        clear hen6
        go_wp2_with fail
        go_roundw
        case rel =>
          refine ⟨j + 1, by omega, by go_num, ?_⟩
          rw [pts_succ, HXY.out, HZZ.out]
          exact HEN6.out
        case measure => simp [intOf]; omega
      · obtain rfl : j = n := by omega
        have hd1 : decide ((j : Int) < (j : Int)) = false := by simp
        have he := HEN.out
        obtain ⟨a1, c1, rfl, hI1, -⟩ := Ints.of_owns he.a
        have hin : Ins (pts L (t3 x0 x1 x2) L.length) L := pts_in HM.out
        rw [HL.out] at hin
        obtain ⟨v, hv, hv1, hv2⟩ := holds_all HZ.out hin
        have CV := value_any op k s a1 j c1 _ wr hI1
        rw [hv] at CV
        have HCV := hide CV
        have HD5 := hide HD4.out
        have hhas : hasB lo hi v = true := hasB_iff.2 ⟨hv1, hv2⟩
        clear he hI1 hin hv hv1 hv2 CV HEN
        have HH := fun w => hide (has_any lo hi v w)
        rw [hhas] at HH
        have HWW := fun w => hide (rwhole_any lo hi w)
        rw [HWh.out] at HWW
        clear hhas
        go_wp2_with fail
        refine HCV.out.mono ?_
        rintro e' w5 ⟨rfl, hb5⟩
        have HD6 := hide (HD5.out.later hb5)
        clear hb5 HD5 HD4 HCV q0 q1 q2 q3
        obtain ⟨q0, q1, q2, q3⟩ := facts4 HD6.out.c
        obtain ⟨r1, r2, -, -⟩ := facts2 HD6.out.r
        go_wp2_with fail
        refine (HWW _).out.mono ?_
        rintro e' w6 ⟨rfl, hb6⟩
        have HD7 := hide (HD6.out.later hb6)
        clear hb6 HD6 q0 q1 q2 q3 r1 r2
        obtain ⟨r1, r2, -, -⟩ := facts2 HD7.out.r
        go_wp2_with fail
        refine (HH _).out.mono ?_
        rintro e' w7 ⟨rfl, hb7⟩
        have HD8 := hide (HD7.out.later hb7)
        clear hb7 HD7 r1 r2
        go_wp2_with fail
        go_ret
        exact ⟨rfl, HD8.out.bel⟩
  · have he' : (e != 0) = true := by simp [he]
    have hz := ofZ_err HZ.out he
    simp only [Prod.mk.injEq] at hz
    obtain ⟨rfl, rfl⟩ := hz
    clear he
    go_wp2_with fail
    refine (awake_any _).mono ?_
    rintro e' w4 ⟨rfl, hb4⟩
    have HD4 := hide (HD3.out.later hb4)
    clear hb4 HD3
    obtain ⟨r1, r2, -, -⟩ := facts2 HD4.out.r
    go_wp2_with fail
    go_ret
    exact ⟨rfl, HD4.out.bel⟩

end Go.Proofs.Ytbandppkhknaoaa
