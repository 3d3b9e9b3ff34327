/-
  The walk of SpanEnds.
-/
import Derived.Test.YtbandppkhknaoaaTight
namespace Go.Proofs.Ytbandppkhknaoaa
open Go.RowKit Go.IntWalk Go.Sort
set_option linter.unusedVariables false

/-- The memory of SpanEnds behind the first call. -/
structure Ed (w W : World) (g : Nat) (op k s : Int) (a : Option Addr) (n cap : Nat) (L : List (Int × Int)) (lo hi : Int) : Prop where
  c : HasC W w.heap.size 24 (callC op k s a n cap)
  r : HasC W g 26 #[.int .i64 lo, .int .i64 hi]
  sp : Spans W a n cap L
  bel : Below w.heap.size w W
theorem Ed.later {w W W' : World} {g : Nat} {op k s : Int} {a : Option Addr} {n cap : Nat} {L : List (Int × Int)} {lo hi : Int} (h : Ed w W g op k s a n cap L lo hi) (hb : Below W.heap.size W W') : Ed w W' g op k s a n cap L lo hi :=
  ⟨h.c.below hb, h.r.below hb, h.sp.later hb, h.bel.trans (hb.mono h.bel.size)⟩

/-- Some corner ahead of m was that number. -/
def seen (op k s : Int) (L : List (Int × Int)) (z : Int) (m : Nat) : Bool := (List.range m).any fun i => vE op k s L i == z
theorem seen_succ (op k s : Int) (L : List (Int × Int)) (z : Int) (m : Nat) : seen op k s L z (m + 1) = (seen op k s L z m || (vE op k s L m == z)) := by
  simp [seen, List.range_succ, List.any_append]
theorem seen_all {op k s : Int} {L : List (Int × Int)} {z : Int} (h : ∃ m, m < 8 ∧ vE op k s L m = z) : seen op k s L z 8 = true := by
  obtain ⟨m, h1, h2⟩ := h
  simp only [seen, List.any_eq_true, List.mem_range]
  exact ⟨m, h1, by simp [h2]⟩

set_option maxRecDepth 100000 in
set_option maxHeartbeats 4000000 in
theorem ends_walk (op k s : Int) (a : Option Addr) (n cap : Nat) (L : List (Int × Int)) (w : World) (h : Spans w a n cap L) :
    Calls Try.prog 7 #[.agg #[.int .i64 op, .int .i64 k, .int .i64 s, .slice a n cap]] w fun e w' => e = .returned (.bool true) ∧ Below w.heap.size w w' := by
  have hC := HasC.new w 24 (callC op k s a n cap)
  have hB := bel1 w (.cells (callC op k s a n cap) 24)
  have HO := hide (of_any op k s a n cap L _ (h.later hB))
  obtain ⟨⟨⟨lo, hi⟩, e⟩, hZ⟩ : ∃ Z, ofZ op k s L = Z := ⟨_, rfl⟩
  rw [hZ] at HO
  have HZ := hide hZ
  have HC := hide hC
  have HB := hide hB
  have H := hide h
  clear hC hB h hZ
  go_enter Try.func7, Try.ntmps7
  go_wp2_with fail
  refine HO.out.mono ?_
  rintro e' w2 ⟨rfl, hb2⟩
  have HD := hide (⟨(HC.out.below hb2).alloc (cs lo hi), HasC.new w2 26 #[.int .i64 lo, .int .i64 hi], H.out.later (bel (bel HB.out hb2) (bel1 _ _)), bel (bel HB.out hb2) (bel1 _ _)⟩ : Ed w (w2.alloc (cs lo hi)) w2.heap.size op k s a n cap L lo hi)
  clear hb2 HC HB H HO
  go_wp2_with fail
  obtain ⟨W, hW⟩ : ∃ W, w2.alloc (.cells #[.int .i64 lo, .int .i64 hi] 26) = W := ⟨_, rfl⟩
  rw [hW] at HD ⊢
  clear hW
  refine (awake_any _).mono ?_
  rintro e' w3 ⟨rfl, hb3⟩
  have HD3 := hide (HD.out.later hb3)
  clear hb3 HD
  obtain ⟨q0, q1, q2, q3⟩ := facts4 HD3.out.c
  by_cases he : e = 0
  · subst he
    by_cases ht : tightB op
    · have HT := fun w => hide (tight_t op w ht)
      obtain ⟨hm, hr, hw⟩ := ofZ_inv HZ.out
      obtain ⟨m2, m1, m3, m4, m5⟩ := smay_inv hm
      have HM := hide m4
      have hlen := HD3.out.sp.len
      have hn3 : n ≤ 3 := by omega
      have HL := hide hlen
      have hen := ends_tight ht HZ.out
      have HS1 := hide (seen_all hen.1)
      have HS2 := hide (seen_all hen.2)
      clear hm hr hw m2 m1 m3 m4 m5 hlen hen ht
      go_wp2_with fail
      refine (HT _).out.mono ?_
      rintro e' w3' ⟨rfl, hw3⟩
      have hw3' := hw3.symm
      subst hw3'
      clear hw3 q0 q1 q2 q3
      go_wp2_with fail
      go_loopw [5, 6, 7] (fun u v i wr => ∃ m : Nat, m ≤ 8 ∧ i = .int .i64 m ∧ u = .bool (seen op k s L lo m) ∧ v = .bool (seen op k s L hi m) ∧ Below w3.heap.size w3 wr) (fun _ _ i _ => 8 - (intOf i).toNat)
      case atStart => exact ⟨0, by omega, rfl, rfl, rfl, Below.refl _ _⟩
      case round =>
        rename World => wo
        obtain ⟨m, hm, rfl, rfl, rfl, hbw⟩ := hrel
        have HD4 := hide (HD3.out.later hbw)
        have HBW := hide hbw
        clear hbw
        by_cases hlt : m < 8
        · have hd0 : decide ((m : Int) < 8) = true := by simp; omega
          obtain ⟨S1, hS1⟩ : ∃ b, seen op k s L lo m = b := ⟨_, rfl⟩
          obtain ⟨S2, hS2⟩ : ∃ b, seen op k s L hi m = b := ⟨_, rfl⟩
          rw [hS1, hS2]
          have HSe1 := hide hS1
          have HSe2 := hide hS2
          clear hS1 hS2
          go_wp2_with fail
          go_loopw [8, 9] (fun v i wr' => ∃ j : Nat, j ≤ n ∧ i = .int .i64 j ∧ En1 wo wr' v j (endP L m j)) (fun _ i _ => n - (intOf i).toNat)
          case atStart => exact ⟨0, by omega, rfl, En1.start wo⟩
          case round =>
            rename World => wi
            obtain ⟨j, hj, rfl, hen⟩ := hrel
            have HEN := hide hen
            clear hen
            have HD5 := hide (HD4.out.later HEN.out.bel)
            obtain ⟨q0, q1, q2, q3⟩ := facts4 HD5.out.c
            by_cases hlt' : j < n
            · have hd1 : decide ((j : Int) < (n : Int)) = true := by simp; omega
              have hd2 : decide ((j : Int) < 3) = true := by simp; omega
              obtain ⟨bb, off, rfl, hbb, hcell⟩ := HD5.out.sp.at (by omega)
              obtain ⟨g1, g2⟩ := hcell j hlt'
              clear hcell
              obtain ⟨⟨x, y⟩, hxy⟩ : ∃ p, L.getD j (0, 0) = p := ⟨_, rfl⟩
              rw [hxy] at g1 g2
              have HXY := hide hxy
              clear hxy
              have hj0 : (0 : Int) ≤ (j : Int) := by omega
              have hj1 : (j : Int) < (n : Int) := by omega
              have hj2 : (j : Int) < 3 := by omega
              obtain ⟨Q, hQ⟩ : ∃ Q : Int, (m : Int) / 2 ^ j = Q := ⟨_, rfl⟩
              have hQn : Q = ((m / 2 ^ j : Nat) : Int) := by rw [← hQ]; simp
              have hQb : 0 ≤ Q ∧ Q ≤ 8 := by
                have h1 : m / 2 ^ j ≤ m := Nat.div_le_self _ _
                rw [hQn]
                generalize m / 2 ^ j = q at *
                omega
              have hA : bits BinOp.and IntKind.i64 Q 1 = Q % 2 := and_one (by omega)
              have HQN := hide hQn
              clear hQn
              by_cases hb : m / 2 ^ j % 2 = 1
              · have hB1 : bits BinOp.and IntKind.i64 Q 1 = 1 := by have := HQN.out; omega
                have HE := hide (show endP L m (j + 1) = endP L m j ++ [y] by rw [endP_succ, if_pos hb, HXY.out])
                clear hA hb
                go_wp2_with (at_builtin; refine list_int rfl _ _ rfl (by rfl) (HEN.out.alloc _) _ y (by rfl) (HasC.new _ 3 _) (by omega) ?_; intro g cap1 w6 hen6 hgr6 hat6; have HEN6 := hide hen6; clear hen6 hgr6 hat6)
                go_roundw
                case rel => exact ⟨j + 1, by omega, by go_num, by rw [HE.out]; exact HEN6.out⟩
                case measure => simp [intOf]; omega
              · have hB0 : bits BinOp.and IntKind.i64 Q 1 = 0 := by have := HQN.out; omega
                have HE := hide (show endP L m (j + 1) = endP L m j ++ [x] by rw [endP_succ, if_neg hb, HXY.out])
                clear hA hb
                go_wp2_with (at_builtin; refine list_int rfl _ _ rfl (by rfl) (HEN.out.alloc _) _ x (by rfl) (HasC.new _ 3 _) (by omega) ?_; intro g cap1 w6 hen6 hgr6 hat6; have HEN6 := hide hen6; clear hen6 hgr6 hat6)
                go_roundw
                case rel => exact ⟨j + 1, by omega, by go_num, by rw [HE.out]; exact HEN6.out⟩
                case measure => simp [intOf]; omega
            · obtain rfl : j = n := by omega
              have hd1 : decide ((j : Int) < (j : Int)) = false := by simp
              obtain ⟨a1, c1, rfl, hI1, -⟩ := Ints.of_owns HEN.out.a
              have hin : Ins (endP L m L.length) L := endP_in m HM.out
              rw [HL.out] at hin
              obtain ⟨v, hv, -, -⟩ := holds_all HZ.out hin
              have hvE : vE op k s L m = v := by unfold vE; rw [HL.out, hv]
              have CV := value_any op k s a1 j c1 _ wi hI1
              rw [hv] at CV
              have HCV := hide CV
              have HVE := hide hvE
              have HBW2 := hide (HBW.out.trans (HEN.out.bel.mono HBW.out.size))
              clear hI1 hin hv CV hvE HEN
              go_wp2_with fail
              refine HCV.out.mono ?_
              rintro e' w5 ⟨rfl, hb5⟩
              have HD6 := hide (HD5.out.later hb5)
              have HBW3 := hide (HBW2.out.trans (hb5.mono HBW2.out.size))
              clear hb5 HD5 HD4 HCV q0 q1 q2 q3 HBW2
              obtain ⟨r1, r2, -, -⟩ := facts2 HD6.out.r
              cases S1 <;> cases S2
              all_goals
                go_wp2_with fail
                go_quiet (fail)
                go_wp2_with fail
                go_roundw
                case rel => exact ⟨m + 1, by omega, by go_num, by rw [seen_succ, HSe1.out, HVE.out]; simp, by rw [seen_succ, HSe2.out, HVE.out]; simp, bdrew HBW3.out _⟩
                case measure => simp [intOf]; omega
        · obtain rfl : m = 8 := by omega
          rw [HS1.out, HS2.out]
          go_wp2_with fail
          go_ret
          exact ⟨rfl, HD4.out.bel⟩
    · have HT := fun w => hide (tight_f op w ht)
      go_wp2_with fail
      refine (HT _).out.mono ?_
      rintro e' w3' ⟨rfl, hw3⟩
      have hw3' := hw3.symm
      subst hw3'
      clear hw3 q0 q1 q2 q3
      go_wp2_with fail
      refine (awake_any _).mono ?_
      rintro e' w4 ⟨rfl, hb4⟩
      have HD4 := hide (HD3.out.later hb4)
      clear hb4 HD3
      go_wp2_with fail
      go_ret
      exact ⟨rfl, HD4.out.bel⟩
  · have he' : (e != 0) = true := by simp [he]
    clear he
    go_wp2_with fail
    refine (awake_any _).mono ?_
    rintro e' w4 ⟨rfl, hb4⟩
    have HD4 := hide (HD3.out.later hb4)
    clear hb4 HD3
    go_wp2_with fail
    go_ret
    exact ⟨rfl, HD4.out.bel⟩

end Go.Proofs.Ytbandppkhknaoaa
