/-
  The walk of SpanRefuses.
-/
import Derived.Test.YtbandppkhknaoaaRefuP
import Derived.Test.YtbandppkhknaoaaEs
import Derived.Test.YtbandppkhknaoaaRefF
namespace Go.Proofs.Ytbandppkhknaoaa
open Go.RowKit Go.IntWalk Go.Sort
set_option linter.unusedVariables false

/-- Rows of numbers and rows of spans never lie in one block. -/
theorem rows_apart {W : World} {B : Nat} {v1 v2 : Value} {n1 n2 : Nat} {xs ys : List Value} (h1 : W.ownsRow B 3 1 v1 n1 xs) (h2 : W.ownsRow B 26 2 v2 n2 ys) : (v2.ownBlock = none ∨ v2.ownBlock ≠ v1.ownBlock) ∧ (v1.ownBlock = none ∨ v1.ownBlock ≠ v2.ownBlock) := by
  rcases h1.2 with ⟨rfl, _⟩ | ⟨g1, cap1, cur1, rfl, _, hg1, _⟩
  · refine ⟨?_, .inl rfl⟩
    cases hv : v2.ownBlock with
    | none => exact .inl rfl
    | some q => exact .inr (by simp [Value.ownBlock])
  · rcases h2.2 with ⟨rfl, _⟩ | ⟨g2, cap2, cur2, rfl, _, hg2, _⟩
    · exact ⟨.inl rfl, .inr (by simp [Value.ownBlock])⟩
    · have hne : g1 ≠ g2 := by
        intro e
        subst e
        rw [hg1] at hg2
        simp at hg2
      exact ⟨.inr (by simp [Value.ownBlock]; omega), .inr (by simp [Value.ownBlock]; omega)⟩

/-- The two lists of SpanRefuses. -/
structure Ep (w W : World) (v1 v2 : Value) (n1 n2 : Nat) (xs : List Int) (L : List (Int × Int)) : Prop where
  i : En1 w W v1 n1 xs
  s : Es w W v2 n2 L
theorem Ep.alloc {w W : World} {v1 v2 : Value} {n1 n2 : Nat} {xs : List Int} {L : List (Int × Int)} (h : Ep w W v1 v2 n1 n2 xs L) (o : Obj) : Ep w (W.alloc o) v1 v2 n1 n2 xs L := ⟨h.i.alloc o, h.s.alloc o⟩
theorem Ep.drew {w W : World} {v1 v2 : Value} {n1 n2 : Nat} {xs : List Int} {L : List (Int × Int)} (h : Ep w W v1 v2 n1 n2 xs L) : Ep w W.drew v1 v2 n1 n2 xs L := ⟨En.drew h.i, h.s.drew⟩
theorem Ep.put_i {w W w' : World} {v1 v1' v2 : Value} {n1 n1' n2 : Nat} {xs xs' : List Int} {L : List (Int × Int)} (h : Ep w W v1 v2 n1 n2 xs L) (hi : En1 w w' v1' n1' xs') (hg : W.grownBy w' v1.ownBlock) : Ep w w' v1' v2 n1' n2 xs' L :=
  ⟨hi, ⟨h.s.a.kept hg (rows_apart h.i.a h.s.a).1, hi.bel⟩⟩
theorem Ep.put_s {w W w' : World} {v1 v2 v2' : Value} {n1 n2 n2' : Nat} {xs : List Int} {L L' : List (Int × Int)} (h : Ep w W v1 v2 n1 n2 xs L) (hs : Es w w' v2' n2' L') (hg : W.grownBy w' v2.ownBlock) : Ep w w' v1 v2' n1 n2' xs L' := by
  refine ⟨⟨h.i.a.kept hg (rows_apart h.i.a h.s.a).2, ⟨rfl, .inl ⟨rfl, rfl⟩⟩, ?_, hs.bel⟩, hs⟩
  intro g _
  simp [Value.ownBlock]

/-- The memory of SpanRefuses behind the first call. -/
structure Fd (w W : World) (g : Nat) (op k s : Int) (a : Option Addr) (n cap : Nat) (L : List (Int × Int)) (lo hi : Int) : Prop where
  c : HasC W w.heap.size 24 (callC op k s a n cap)
  r : HasC W g 26 #[.int .i64 lo, .int .i64 hi]
  sp : Spans W a n cap L
  bel : Below w.heap.size w W
theorem Fd.later {w W W' : World} {g : Nat} {op k s : Int} {a : Option Addr} {n cap : Nat} {L : List (Int × Int)} {lo hi : Int} (h : Fd w W g op k s a n cap L lo hi) (hb : Below W.heap.size W W') : Fd w W' g op k s a n cap L lo hi :=
  ⟨h.c.below hb, h.r.below hb, h.sp.later hb, h.bel.trans (hb.mono h.bel.size)⟩

theorem take_succ2 {L : List (Int × Int)} {j : Nat} {x y : Int} (hj : j < L.length) (h : L.getD j (0, 0) = (x, y)) : fsts (L.take (j + 1)) = fsts (L.take j) ++ [x] ∧ ptsOf (L.take (j + 1)) = ptsOf (L.take j) ++ [(x, x)] := by
  have e : L[j] = (x, y) := by simpa [List.getD, hj] using h
  rw [List.take_succ_eq_append_getElem hj, e]
  simp [fsts, ptsOf]

set_option maxRecDepth 100000 in
set_option maxHeartbeats 4000000 in
theorem refuses_walk (op k s : Int) (a : Option Addr) (n cap : Nat) (L : List (Int × Int)) (w : World) (h : Spans w a n cap L) (hreach : n ≤ 8796093022000) :
    Calls Try.prog 8 #[.agg #[.int .i64 op, .int .i64 k, .int .i64 s, .slice a n cap]] w fun e w' => e = .returned (.bool true) ∧ Below w.heap.size w w' := by
  have hC := HasC.new w 24 (callC op k s a n cap)
  have hB := bel1 w (.cells (callC op k s a n cap) 24)
  have HO := hide (of_any op k s a n cap L _ (h.later hB))
  obtain ⟨⟨⟨lo, hi⟩, e⟩, hZ⟩ : ∃ Z, ofZ op k s L = Z := ⟨_, rfl⟩
  rw [hZ] at HO
  have HZ := hide hZ
  have HC := hide hC
  have HB := hide hB
  have H := hide h
  clear hC hB h hZ
  go_enter Try.func8, Try.ntmps8
  go_wp2_with fail
  refine HO.out.mono ?_
  rintro e' w2 ⟨rfl, hb2⟩
  have HD := hide (⟨(HC.out.below hb2).alloc (cs lo hi), HasC.new w2 26 #[.int .i64 lo, .int .i64 hi], H.out.later (bel (bel HB.out hb2) (bel1 _ _)), bel (bel HB.out hb2) (bel1 _ _)⟩ : Fd w (w2.alloc (cs lo hi)) w2.heap.size op k s a n cap L lo hi)
  clear hb2 HC HB H HO
  go_wp2_with fail
  obtain ⟨W, hW⟩ : ∃ W, w2.alloc (.cells #[.int .i64 lo, .int .i64 hi] 26) = W := ⟨_, rfl⟩
  rw [hW] at HD ⊢
  clear hW
  refine (awake_any _).mono ?_
  rintro e' w3 ⟨rfl, hb3⟩
  have HD3 := hide (HD.out.later hb3)
  clear hb3 HD
  obtain ⟨q0, q1, q2, q3⟩ := facts4 HD3.out.c
  obtain ⟨r1, r2, -, -⟩ := facts2 HD3.out.r
  by_cases he : e = 12
  · subst he
    obtain ⟨hz, x0, y0, x1, y1, rfl, hc0, hd0, hop⟩ := zero_all HZ.out
    simp only [Prod.mk.injEq] at hz
    obtain ⟨rfl, rfl⟩ := hz
    have hlen : n = 2 := HD3.out.sp.len.symm
    subst hlen
    obtain ⟨bb, off, rfl, hbb, hcell⟩ := HD3.out.sp.at (by omega)
    obtain ⟨g1, g2⟩ := hcell 1 (by omega)
    clear hcell
    simp at g1 g2
    have hle := HD3.out.sp.le
    have e1 : decide (x1 ≤ 0) = true := by simp [hc0]
    have e2 : decide (0 ≤ y1) = true := by simp [hd0]
    rcases hop with rfl | rfl
    · go_wp2_with fail
      go_ret
      exact ⟨rfl, HD3.out.bel⟩
    · go_wp2_with fail
      go_ret
      exact ⟨rfl, HD3.out.bel⟩
  · have he' : (e == 12) = false := by simp [he]
    clear he q0 q1 q2 q3 r1 r2
    have hlen := HD3.out.sp.len
    have HL := hide hlen
    clear hlen
    go_wp2_with fail
    go_loopw [5, 6, 7] (fun v1 v2 i wr => ∃ j : Nat, j ≤ n ∧ i = .int .i64 j ∧ Ep w3 wr v1 v2 j j (fsts (L.take j)) (ptsOf (L.take j))) (fun _ _ i _ => n - (intOf i).toNat)
    case atStart => exact ⟨0, by omega, rfl, En1.start w3, Es.start w3⟩
    case round =>
      rename World => wi
      obtain ⟨j, hj, rfl, hen⟩ := hrel
      have HEN := hide hen
      clear hen
      have HD5 := hide (HD3.out.later HEN.out.i.bel)
      obtain ⟨q0, q1, q2, q3⟩ := facts4 HD5.out.c
      by_cases hlt : j < n
      · have hd1 : decide ((j : Int) < (n : Int)) = true := by simp; omega
        obtain ⟨bb, off, rfl, hbb, hcell⟩ := HD5.out.sp.at (by omega)
        obtain ⟨g1, g2⟩ := hcell j hlt
        clear hcell
        obtain ⟨⟨x, y⟩, hxy⟩ : ∃ p, L.getD j (0, 0) = p := ⟨_, rfl⟩
        rw [hxy] at g1 g2
        have HXY := hide hxy
        clear hxy
        have hj0 : (0 : Int) ≤ (j : Int) := by omega
        have hj1 : (j : Int) < (n : Int) := by omega
        go_wp2_with (at_builtin; refine list_int rfl _ _ rfl (by rfl) (HEN.out.i.alloc _) _ x (by rfl) (HasC.new _ 3 _) (by omega) ?_; intro g cap1 w6 hen6 hgr6 hat6; have HEN6 := hide (Ep.put_i (HEN.out.alloc _) hen6 hgr6); clear hen6 hgr6 hat6)
        have HD6 := hide (HD3.out.later HEN6.out.i.bel)
        clear q0 q1 q2 q3 g1 g2 HD5 HEN
        obtain ⟨q0, q1, q2, q3⟩ := facts4 HD6.out.c
        obtain ⟨bb', off', he1, hbb', hcell⟩ := HD6.out.sp.at (by omega)
        cases he1
        obtain ⟨g1, g2⟩ := hcell j hlt
        rw [HXY.out] at g1 g2
        clear hcell
        go_region_held3 (fun w' => w'.cell? ⟨w.heap.size, 3, none⟩ = some (.slice (some ⟨bb, off, none⟩) n cap) ∧ w'.cell? ⟨bb, off + j * 2, none⟩ = some (.int .i64 x))
          (first | exact ⟨u0, u1⟩ | go_keep)
          ((refine step_span (by rfl) _ _ (by rfl) (by rfl) (by exact (HEN6.out.alloc _).drew.s) _ x x (by rfl) (by exact HasC.new _ 26 _) (by omega) ?_; intro g' cap2 w7 hes7 hgr7 hat7; have HEN7 := hide (Ep.put_s ((HEN6.out.alloc _).drew) hes7 hgr7); have HD7 := hide (HD3.out.later HEN7.out.i.bel); have u0 := HD7.out.c.cell 3 rfl; obtain ⟨bb2, off2, he2, -, hc2⟩ := HD7.out.sp.at (by omega); cases he2; obtain ⟨u1, -⟩ := hc2 j hlt; rw [HXY.out] at u1; clear hc2))
        clear u0 u1 hes7 hgr7 hat7 q0 q1 q2 q3 g1 g2 HD6 HEN6 hbb hbb'
        go_wp2_with fail
        go_roundw
        case rel =>
          refine ⟨j + 1, by omega, by go_num, ?_⟩
          have hs := take_succ2 (by rw [HL.out]; exact hlt) HXY.out
          rw [hs.1, hs.2]
          exact HEN7.out
        case measure => simp [intOf]; omega
      · obtain rfl : j = n := by omega
        have hd1 : decide ((j : Int) < (j : Int)) = false := by simp
        have hen := HEN.out
        rw [List.take_of_length_le (by rw [HL.out]; omega)] at hen
        obtain ⟨a1, c1, rfl, hI1, -⟩ := Ints.of_owns hen.i.a
        obtain ⟨a2, c2, rfl, hI2⟩ := Spans.of_owns hen.s.a (by simp [ptsOf, HL.out])
        have hR := refu_all op k s L
        have CO := of_any op k s a2 j c2 _ wi hI2
        obtain ⟨⟨⟨tl, th⟩, te⟩, hT⟩ : ∃ Z, ofZ op k s (ptsOf L) = Z := ⟨_, rfl⟩
        obtain ⟨⟨v, ve⟩, hV⟩ : ∃ Z, valZ op k s (fsts L) = Z := ⟨_, rfl⟩
        rw [hT] at CO hR
        rw [hV] at hR
        simp only at hR
        obtain ⟨rfl, hR2⟩ := hR
        have HCO := hide CO
        have HI1 := hide hI1
        have HVV := hide hV
        have HRR := hide hR2
        clear CO hI1 hI2 hT hV hR2 hen HEN
        go_wp2_with fail
        refine HCO.out.mono ?_
        rintro e' w5 ⟨rfl, hb5⟩
        have hbb := bel hb5 (bel1 _ (cs tl th))
        have HD6 := hide (HD5.out.later hbb)
        have HI6 := hide (HI1.out.later hbb)
        have HN := hide (HasC.new w5 26 #[.int .i64 tl, .int .i64 th])
        clear hb5 hbb HD5 HCO q0 q1 q2 q3 HI1
        obtain ⟨q0, q1, q2, q3⟩ := facts4 HD6.out.c
        go_wp2_with fail
        have CR := rvalue_any op k s a1 j c1 (fsts L) (w5.alloc (.cells #[.int .i64 tl, .int .i64 th] 26)) HI6.out
        rw [HVV.out] at CR
        refine CR.mono ?_
        clear CR
        rintro e' w8 ⟨rfl, hw8⟩
        subst hw8
        obtain ⟨n1, n2, -, -⟩ := facts2 HN.out
        by_cases hv0 : te = 0
        · subst hv0
          have HH := fun w => hide (has_any tl th v w)
          rw [HRR.out rfl] at HH
          go_wp2_with fail
          refine (HH _).out.mono ?_
          rintro e' w9 ⟨rfl, hb9⟩
          have HD9 := hide (HD6.out.later hb9)
          clear hb9
          go_wp2_with fail
          go_ret
          exact ⟨rfl, HD9.out.bel⟩
        · have hv1 : (te != 0) = true := by simp [hv0]
          clear hv0
          go_wp2_with fail
          go_ret
          exact ⟨rfl, HD6.out.bel⟩

end Go.Proofs.Ytbandppkhknaoaa
