/-
  The walk of KindRange.
-/
import Derived.Test.YtinlknflkgijmaaFits
import Derived.Test.YtinlknflkgijmaaAwake
namespace Go.Proofs.Ytinlknflkgijmaa
open Go.RowKit Go.Sort Go.IntWalk
set_option linter.unusedVariables false

theorem fit_bad {f d x y c : Int} {zs : List Int} (h : ¬ Fit f d x y c zs) : fitE f d x y c zs = 1 := by unfold fitE; rw [if_neg h]
theorem fit_ok {f d x y c : Int} {zs : List Int} (h : Fit f d x y c zs) : fitE f d x y c zs = 0 := by unfold fitE; rw [if_pos h]
theorem not_fit {f d x y c : Int} {zs : List Int} (h : ¬ May f d) : ¬ Fit f d x y c zs := fun hF => by
  obtain ⟨lo, hi, hz, _⟩ := hF.1.1.1
  simp [inZ, h] at hz

set_option maxRecDepth 100000 in
set_option maxHeartbeats 4000000 in
theorem range_bad (f d x y c : Int) (a : Option Addr) (n cap : Nat) (zs : List Int) (w : World) (hZ : Ints w a n cap zs) (hm : ¬ May f d) :
    Calls Try.prog 8 #[.agg #[.int .i64 f, .int .i64 d], .agg #[.int .i64 x, .int .i64 y, .int .i64 c, .slice a n cap]] w fun e w' => e = .returned (.bool true) ∧ Below w.heap.size w w' := by
  have HZ1 := hide hZ
  clear hZ
  have HB1 := hide ((bel1 w (.cells #[.int .i64 f, .int .i64 d] 23)).alloc (by simp) (.cells #[.int .i64 x, .int .i64 y, .int .i64 c, .slice a n cap] 43))
  have HK1 := hide ((HasC.new w 23 #[.int .i64 f, .int .i64 d]).alloc (.cells #[.int .i64 x, .int .i64 y, .int .i64 c, .slice a n cap] 43))
  have hP : HasC ((w.alloc (.cells #[.int .i64 f, .int .i64 d] 23)).alloc (.cells #[.int .i64 x, .int .i64 y, .int .i64 c, .slice a n cap] 43)) (w.heap.size + 1) 43 #[.int .i64 x, .int .i64 y, .int .i64 c, .slice a n cap] := by
    have := HasC.new (w.alloc (.cells #[.int .i64 f, .int .i64 d] 23)) 43 #[.int .i64 x, .int .i64 y, .int .i64 c, .slice a n cap]
    rwa [World.size_alloc] at this
  have HP1 := hide hP
  clear hP
  go_enter Try.func8, Try.ntmps8
  go_wp2_with fail
  refine (awake_any _).mono ?_
  rintro e w2 ⟨rfl, hb2⟩
  have HK2 := hide (HK1.out.below hb2)
  have HP2 := hide (HP1.out.below hb2)
  have HB2 := hide (bel HB1.out hb2)
  clear hb2
  obtain ⟨x2, y2, -, -⟩ := facts2 HK2.out
  go_wp2_with fail
  refine (check_bad f d _ hm).mono ?_
  rintro e w3 ⟨rfl, hb3⟩
  have HK3 := hide (HK2.out.below hb3)
  have HP3 := hide (HP2.out.below hb3)
  have HB3 := hide (bel HB2.out hb3)
  clear hb3 x2 y2
  go_wp2_with fail
  refine (awake_any _).mono ?_
  rintro e w4 ⟨rfl, hb4⟩
  have HK4 := hide (HK3.out.below hb4)
  have HP4 := hide (HP3.out.below hb4)
  have HB4 := hide (bel HB3.out hb4)
  clear hb4
  obtain ⟨x4, y4, -, -⟩ := facts2 HK4.out
  obtain ⟨p4, q4, r4, t4⟩ := factsW HP4.out
  go_wp2_with fail
  refine (fits_any f d x y c a n cap zs _ (HZ1.out.later HB4.out)).mono ?_
  rintro e w5 ⟨rfl, hb5⟩
  rw [fit_bad (not_fit hm)]
  go_wp2
  go_ret
  exact ⟨rfl, bel HB4.out hb5⟩

theorem owns_later {w w' : World} {base : Nat} {e : TypeId} {size n : Nat} {v : Value} {xs : List Value} (h : w.ownsRow base e size v n xs) (hb : Below w.heap.size w w') : w'.ownsRow base e size v n xs :=
  h.kept (grownBy_none_of_below hb) (Decidable.em _ |>.imp id (fun h => h))
theorem rep_succ (k : Nat) (b : Int) : i64s (List.replicate k b) ++ [Value.int .i64 b] = i64s (List.replicate (k + 1) b) := by
  rw [List.replicate_succ']; simp

/-- A row of numbers that is owned, as the reading of a slice. -/
theorem ints_of_row {w : World} {base g n cap : Nat} {xs : List Int} (h : w.ownsRow base 3 1 (.slice (some ⟨g, 0, none⟩) n cap) n (i64s xs)) : Ints w (some ⟨g, 0, none⟩) n cap xs := by
  obtain ⟨a, c, hv, hI, _⟩ := Ints.of_owns h
  simp only [Value.slice.injEq] at hv
  obtain ⟨rfl, _, rfl⟩ := hv
  exact hI

theorem owns_pos {w : World} {base : Nat} {e : TypeId} {size n : Nat} {v : Value} {xs : List Value} (h : w.ownsRow base e size v n xs) (hn : n ≠ 0) : ∃ g cap, v = .slice (some ⟨g, 0, none⟩) n cap := by
  rcases h.2 with ⟨_, h0⟩ | ⟨g, cap, _, rfl, _⟩
  · exact absurd h0 hn
  · exact ⟨g, cap, rfl⟩

theorem row_cell {w : World} {base g n cap : Nat} {xs : List Int} (h : w.ownsRow base 3 1 (.slice (some ⟨g, 0, none⟩) n cap) n (i64s xs)) (j : Nat) (hj : j < n) : ∃ z, w.cell? ⟨g, j, none⟩ = some (.int .i64 z) ∧ w.frozen? ⟨g, j, none⟩ = false := by
  have hl : xs.length = n := by simpa using h.1
  refine ⟨xs.getD j 0, ?_, h.frozenAt j⟩
  rw [h.cellAt j (by omega)]
  simp [List.getD, hl, hj]

/-- A row of numbers with one of them turned. -/
theorem row_set {w : World} {base g n cap : Nat} {xs : List Int} (h : w.ownsRow base 3 1 (.slice (some ⟨g, 0, none⟩) n cap) n (i64s xs)) (j : Nat) (u : Int) :
    (w.setCell ⟨g, j, none⟩ (.int .i64 u)).ownsRow base 3 1 (.slice (some ⟨g, 0, none⟩) n cap) n (i64s (xs.set j u)) := by
  have := (h.stored j (.int .i64 u)).1
  rwa [← List.map_set] at this

theorem lies0 {f d : Int} (hm : May f d) : Lies f d 0 0 ∧ Lies f d 1 0 ∧ Lies f d 2 0 := by
  have hc : 1 ≤ colZ f := by unfold colZ; split <;> omega
  have hr : 1 ≤ rowZ f := by unfold rowZ; split <;> omega
  exact ⟨⟨0, colZ f - 1, by simp [inZ, hm], by omega, by omega⟩, ⟨0, rowZ f - 1, by simp [inZ, hm], by omega, by omega⟩, ⟨0, 3, by simp [inZ, hm], by omega, by omega⟩⟩

theorem fit_rep {f d bd : Int} {N : Nat} (hm : May f d) (hN : countZ f d = (N : Int)) (h1 : lowZ f d ≤ bd) (h2 : bd ≤ highZ f d) : Fit f d 0 0 0 (List.replicate N bd) := by
  obtain ⟨l0, l1, l2⟩ := lies0 hm
  refine ⟨⟨⟨l0, l1⟩, l2⟩, by rw [hN]; simp, fun z hz => ?_⟩
  obtain ⟨_, rfl⟩ := List.mem_replicate.1 hz
  exact ⟨h1, h2⟩
theorem fit_set {f d : Int} {L : List Int} {k : Nat} {u : Int} (hk : k < L.length) (hu : ¬ (lowZ f d ≤ u ∧ u ≤ highZ f d)) : ¬ Fit f d 0 0 0 (L.set k u) := fun hF => by
  refine hu (hF.2.2 u ?_)
  rw [List.mem_iff_getElem?]
  exact ⟨k, by simp [hk]⟩

theorem ok_facts {f d : Int} (hm : May f d) : (1 ≤ d ∧ d ≤ 16) ∧ (-32768 ≤ lowZ f d ∧ lowZ f d ≤ 0) ∧ (0 ≤ highZ f d ∧ highZ f d ≤ 65535) ∧ (lowZ f d ≤ borderZ f d ∧ borderZ f d ≤ highZ f d) ∧
    wrap64 (2 ^ d.toNat) = highZ f d - lowZ f d + 1 ∧ ∃ N : Nat, countZ f d = (N : Int) ∧ 31 ≤ N ∧ N ≤ 44 := by
  obtain ⟨hd1, hd2⟩ : 1 ≤ d ∧ d ≤ 16 := hm.2
  have h1 := pw_le (d - 1) (by omega)
  have h2 := pw_half d hd1
  have h4 := pw_le d hd2
  have h3 : (2 : Int) ^ d.toNat = pw d := rfl
  have h5 : pw (d - 1) ≤ 32768 := by omega
  rw [h3, wrap64_in _ ⟨by omega, by omega⟩, h2]
  rcases hm.1 with rfl | rfl
  · obtain ⟨e1, e2, e3, e4⟩ := zs0 hm
    rw [e1, e2, e3, e4]
    exact ⟨⟨hd1, hd2⟩, ⟨by omega, by omega⟩, ⟨by omega, by omega⟩, ⟨by omega, by omega⟩, by omega, 44, rfl, by omega, by omega⟩
  · obtain ⟨e1, e2, e3, e4⟩ := zs1 hm
    rw [e1, e2, e3, e4]
    exact ⟨⟨hd1, hd2⟩, ⟨by omega, by omega⟩, ⟨by omega, by omega⟩, ⟨by omega, by omega⟩, by omega, 31, rfl, by omega, by omega⟩

set_option maxRecDepth 100000 in
set_option maxHeartbeats 8000000 in
theorem range_ok (f d x y c : Int) (a : Option Addr) (n cap : Nat) (w : World) (hm : May f d) :
    Calls Try.prog 8 #[.agg #[.int .i64 f, .int .i64 d], .agg #[.int .i64 x, .int .i64 y, .int .i64 c, .slice a n cap]] w fun e w' => e = .returned (.bool true) ∧ Below w.heap.size w w' := by
  have HB1 := hide ((bel1 w (.cells #[.int .i64 f, .int .i64 d] 23)).alloc (by simp) (.cells #[.int .i64 x, .int .i64 y, .int .i64 c, .slice a n cap] 43))
  have HK1 := hide ((HasC.new w 23 #[.int .i64 f, .int .i64 d]).alloc (.cells #[.int .i64 x, .int .i64 y, .int .i64 c, .slice a n cap] 43))
  obtain ⟨⟨hd1, hd2⟩, ⟨l1, l2⟩, ⟨g1, g2⟩, ⟨b1, b2⟩, hsh, N, hcn, hN1, hN2⟩ := ok_facts hm
  go_enter Try.func8, Try.ntmps8
  go_wp2_with fail
  refine (awake_any _).mono ?_
  rintro e w2 ⟨rfl, hb2⟩
  have HK2 := hide (HK1.out.below hb2)
  have HB2 := hide (bel HB1.out hb2)
  clear hb2
  obtain ⟨x2, y2, -, -⟩ := facts2 HK2.out
  go_wp2_with fail
  refine (check_ok f d _ hm).mono ?_
  rintro e w3 ⟨rfl, hb3⟩
  have HK3 := hide (HK2.out.below hb3)
  have HB3 := hide (bel HB2.out hb3)
  clear hb3 x2 y2 HK1 HB1 HK2 HB2
  obtain ⟨x3, y3, -, -⟩ := facts2 HK3.out
  go_wp2
  have k0 := cell_regrown x3
  have k1 := cell_regrown y3
  refine wp_region_quiet_below mixed' (by kernel_rfl) ?_
  repeat (first | go_big_quiet_step (first
    | (go_at_call 12; exact Calls.regrown_of (low_any _ _ _))
    | (go_at_call 14; exact Calls.regrown_of (high_any _ _ _))
    | (go_at_call 16; exact Calls.regrown_of (border_any _ _ _))))
  refine wpQuiet_nil ?_
  intro w4 hw'
  obtain ⟨⟨dq4, osq4⟩, hw''⟩ := hw'
  have hb4 : Below w3.heap.size w3 (grow (redrawn w3 dq4) osq4) := below_regrown _ _ _
  simp only at hw''
  rw [← hw''] at hb4
  have HK4 := hide (HK3.out.below hb4)
  have HB4 := hide (bel HB3.out hb4)
  clear hw'' hb4 HK3 HB3 k0 k1 x3 y3
  obtain ⟨x4, y4, -, -⟩ := facts2 HK4.out
  obtain ⟨lo, hlo⟩ : ∃ lo, lowZ f d = lo := ⟨_, rfl⟩
  obtain ⟨hi, hhi⟩ : ∃ hi, highZ f d = hi := ⟨_, rfl⟩
  obtain ⟨bd, hbd⟩ : ∃ bd, borderZ f d = bd := ⟨_, rfl⟩
  rw [hlo] at l1 l2 b1 hsh ⊢
  rw [hhi] at g1 g2 b2 hsh ⊢
  rw [hbd] at b1 b2 ⊢
  have HLO := hide hlo
  have HHI := hide hhi
  have HCN := hide hcn
  clear hlo hhi hbd hcn
  go_wp2
  obtain ⟨i0, hi0, hz0, hz1, hz2⟩ := info_parts info3
  clear x4 y4
  go_loopw [8, 9] (fun pv iv wr => ∃ k : Nat, k ≤ N ∧ iv = .int .i64 k ∧ (∃ ao cp, pv = .slice ao k cp) ∧ Hid (wr.ownsRow w.heap.size 3 1 pv k (i64s (List.replicate k bd))) ∧ Hid (Below w.heap.size w wr) ∧ Hid (HasC wr w.heap.size 23 #[.int .i64 f, .int .i64 d])) (fun _ iv _ => N - (intOf iv).toNat)
  case atStart => exact ⟨0, by omega, rfl, ⟨_, _, rfl⟩, World.ownsRow_nil _ _ _ _, HB4, HK4⟩
  case round =>
    obtain ⟨k, hk, rfl, ⟨ao, cp, rfl⟩, HO, HB, HK⟩ := hrel
    obtain ⟨x5, y5, -, -⟩ := facts2 HK.out
    clear HK4 HB4
    go_wp2_with fail
    refine (count_any f d _).mono ?_
    rintro e w6 ⟨rfl, hb6⟩
    rw [HCN.out]
    have HO6 := hide (owns_later HO.out hb6)
    have HB6 := hide (bel HB.out hb6)
    have HK6 := hide (HK.out.below hb6)
    clear hb6 HO HB HK x5 y5
    by_cases hlt : k < N
    · have hlt' : (k : Int) < (N : Int) := by omega
      have hlt9 : (k : Int) < 99 := by omega
      have hc1 : ∀ u ∈ [Value.int .i64 bd], u.oneCell' = true := by intro u hu; simp at hu; subst hu; rfl
      go_wp2_with (at_builtin; refine wpList_append_own _ rfl _ _ 41 rfl w.heap.size 3 i0 _ 1 8 Try.underlying41 hi0 hz0 hz1 hz2 rfl (by decide) _ _ _ rfl (HO6.out.alloc _) ⟨w6.heap.size, 0, none⟩ 1 1 [.int .i64 bd] rfl rfl (cells_new _ _ _) hc1 (by unfold maxLen; omega) (by omega) (by have := HB6.out.size; simp; omega) ?_; intro v' w7 hown' hgrow _; obtain ⟨g', cap', rfl⟩ := ownsRow_succ hown')
      exact ⟨⟨k + 1, by omega, by go_num, ⟨_, _, rfl⟩, by rw [rep_succ] at hown'; exact hown', below_append HB6.out HO6.out hgrow, other_append HK6.out (by decide) HO6.out hgrow⟩, by simp [intOf]; omega⟩
    · obtain rfl : k = N := by omega
      obtain ⟨g, hg⟩ : ∃ g, ao = some ⟨g, 0, none⟩ := by
        rcases HO6.out.2 with ⟨_, h0⟩ | ⟨g, _, _, hv, _⟩
        · omega
        · simp at hv; exact ⟨g, hv.1⟩
      subst hg
      obtain ⟨x6, y6, -, -⟩ := facts2 HK6.out
      go_wp2_with fail
      refine (fits_any f d 0 0 0 (some ⟨g, 0, none⟩) k cp (List.replicate k bd) _ (ints_of_row HO6.out)).mono ?_
      rintro e w7 ⟨rfl, hb7⟩
      rw [fit_ok (fit_rep hm HCN.out (by rw [HLO.out]; exact b1) (by rw [HHI.out]; exact b2))]
      have HO7 := hide (owns_later HO6.out hb7)
      have HB7 := hide (bel HB6.out hb7)
      have HK7 := hide (HK6.out.below hb7)
      clear hb7 HO6 HB6 HK6 x6 y6
      have hk0 : ¬ ((k : Int) = 0) := by omega
      have hk0' : ((k : Int) == 0) = false := by simp; omega
      go_wp2
      go_loopw [10] (fun iv wr => ∃ i : Nat, i ≤ k ∧ iv = .int .i64 i ∧ Hid (wr.ownsRow w.heap.size 3 1 (.slice (some ⟨g, 0, none⟩) k cp) k (i64s (List.replicate k bd))) ∧ Hid (Below w.heap.size w wr) ∧ Hid (HasC wr w.heap.size 23 #[.int .i64 f, .int .i64 d])) (fun iv _ => k - (intOf iv).toNat)
      case atStart => exact ⟨0, by omega, rfl, HO7, HB7, HK7⟩
      case round =>
        clear HO7 HB7 HK7
        obtain ⟨i, hik, rfl, HO, HB, HK⟩ := hrel
        by_cases hlt2 : i < k
        · have hlt2' : (i : Int) < (k : Int) := by omega
          have hown0 := World.ownsRow_lit (e := 3) (size := 1) wr #[] 0 (Nat.le_refl _) (by decide) rfl
          have hnews := ((ints_of_row HO.out).later (bel1 wr (.cells #[] 3))).news _ rfl
          have HO0 := hide hown0
          have HNW := hide hnews
          clear hown0 hnews
          have hc1 : ∀ u ∈ i64s (List.replicate k bd), u.oneCell' = true := by intro u hu; simp at hu; rw [hu.2]; rfl
          go_wp2_with (at_builtin; refine wpList_append_own _ rfl _ _ 41 rfl wr.heap.size 3 i0 _ 1 8 Try.underlying41 hi0 hz0 hz1 hz2 rfl (by decide) (.slice (some ⟨wr.heap.size, 0, none⟩) 0 0) 0 [] rfl HO0.out ⟨g, 0, none⟩ k cp (i64s (List.replicate k bd)) rfl (by simp) HNW.out hc1 (by unfold maxLen; omega) (by omega) (by simp) ?_; intro v' w8 hown' hgrow _; rw [Nat.zero_add] at hown'; have HQ8 : Hid (w8.ownsRow wr.heap.size 3 1 v' k (i64s (List.replicate k bd))) := hown'; have HG8 : Hid (Below wr.heap.size wr w8) := (bel1 wr (.cells #[] 3)).grown hgrow (by simp) (fun j hj => by simp [Value.ownBlock] at hj; omega); clear hown' hgrow; obtain ⟨g8, cap8, rfl⟩ := owns_pos HQ8.out (by omega); obtain ⟨z8, cz8, fz8⟩ := row_cell HQ8.out i hlt2; have HK8 := hide (HK.out.below HG8.out); have hgg : w.heap.size ≠ g8 := (by have h1 := (HQ8.out.lt g8 rfl).1; have h2 := HK.out.lt; omega); have HK9 := hide (HK8.out.other (p := ⟨g8, i, none⟩) hgg (.int .i64 (hi + 1))); obtain ⟨x9, y9, -, -⟩ := facts2 HK9.out)
          have HQ9 := hide (row_set HQ8.out i (hi + 1))
          have HG9 := hide (HG8.out.setCell (p := ⟨g8, i, none⟩) ((HQ8.out.lt g8 rfl).1) (.int .i64 (hi + 1)))
          refine (fits_any f d 0 0 0 (some ⟨g8, 0, none⟩) k cap8 ((List.replicate k bd).set i (hi + 1)) _ (ints_of_row HQ9.out)).mono ?_
          rintro e w10 ⟨rfl, hb10⟩
          rw [fit_bad (fit_set (by simpa using hlt2) (by rw [HLO.out, HHI.out]; omega))]
          have HQ10 := hide (owns_later HQ9.out hb10)
          have HK10 := hide (HK9.out.below hb10)
          have HG10 := hide (bel HG9.out hb10)
          clear hb10 x9 y9 cz8 fz8 HQ8 HQ9 HG8 HG9 HK8 HK9
          obtain ⟨z10, cz10, fz10⟩ := row_cell HQ10.out i hlt2
          have HK11 := hide (HK10.out.other (p := ⟨g8, i, none⟩) hgg (.int .i64 (lo - 1)))
          obtain ⟨x11, y11, -, -⟩ := facts2 HK11.out
          go_wp2_with fail
          have HQ11 := hide (row_set HQ10.out i (lo - 1))
          have HG11 := hide (HG10.out.setCell (p := ⟨g8, i, none⟩) ((HQ10.out.lt g8 rfl).1) (.int .i64 (lo - 1)))
          refine (fits_any f d 0 0 0 (some ⟨g8, 0, none⟩) k cap8 (((List.replicate k bd).set i (hi + 1)).set i (lo - 1)) _ (ints_of_row HQ11.out)).mono ?_
          rintro e w12 ⟨rfl, hb12⟩
          rw [fit_bad (fit_set (by simpa using hlt2) (by rw [HLO.out, HHI.out]; omega))]
          have HG12 := hide (bel HG11.out hb12)
          clear hb12 x11 y11 cz10 fz10 HQ10 HQ11 HG10 HG11 HK10 HK11
          go_wp2
          exact ⟨⟨i + 1, by omega, by go_num, owns_later HO.out HG12.out, bel HB.out HG12.out, HK.out.below HG12.out⟩, by simp [intOf]; omega⟩
        · obtain rfl : i = k := by omega
          go_wp2
          go_ret
          exact ⟨rfl, HB.out⟩

theorem range_walk (f d x y c : Int) (a : Option Addr) (n cap : Nat) (zs : List Int) (w : World) (hZ : Ints w a n cap zs) :
    Calls Try.prog 8 #[.agg #[.int .i64 f, .int .i64 d], .agg #[.int .i64 x, .int .i64 y, .int .i64 c, .slice a n cap]] w fun e w' => e = .returned (.bool true) ∧ Below w.heap.size w w' := by
  by_cases hm : May f d
  · exact range_ok f d x y c a n cap w hm
  · exact range_bad f d x y c a n cap zs w hZ hm

end Go.Proofs.Ytinlknflkgijmaa
