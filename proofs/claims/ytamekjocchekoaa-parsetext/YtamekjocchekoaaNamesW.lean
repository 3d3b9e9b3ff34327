/-
  The walk of ParseNames.
-/
import Derived.Test.YtamekjocchekoaaQsm
import Derived.Test.YtamekjocchekoaaGr46
namespace Go.Proofs.Ytamekjocchekoaa
open Go.RowKit Go.IntWalk Lx Pz
set_option linter.unusedVariables false

theorem bs_add (a b : ByteArray) : bs (a ++ b) = bs a ++ bs b := by simp [bs]

set_option maxRecDepth 100000 in
set_option maxHeartbeats 4000000 in
theorem names_walk0 (s : ByteArray) (w : World) (hs : s.size ≤ 140737488355328) :
    Calls Try.prog 4 #[.string s] w fun e w' => e = .returned (.bool true) ∧ Below w.heap.size w w' := by
  have HWd := hide fun V => word_any s V (by unfold maxLen; omega)
  have HRs := hide fun V => reserved_any s V
  have HQs := hide fun V => qreserved_any s V
  cases hw : wrd (bs s) with
  | false =>
    rw [hw] at HWd
    generalize resv (bs s) = r at HRs HQs
    clear hw
    go_enter Try.func4, Try.ntmps4
    go_wp2_with fail
    refine (parse_read _ _).mono ?_
    rintro e W1 (⟨rfl, hb, -⟩ | ⟨T, NM, es, ex, na, nc, ba, bc, da, dc, -, -, -, -, rfl, -, -, -, hb⟩)
    all_goals
      have HB := hide hb
      clear hb
      go_wp2_with fail
      refine (HWd.out _).mono ?_
      rintro e W2 ⟨rfl, rfl⟩
      go_wp2_with fail
      refine (awake_any _).mono ?_
      rintro e W3 ⟨rfl, hb⟩
      have HB3 := hide (bel (bel HB.out (bel1 _ _)) hb)
      clear hb HB
      go_wp2_with fail
      refine (HRs.out _).mono ?_
      rintro e W4 ⟨rfl, rfl⟩
      go_wp2_with fail
      refine (HQs.out _).mono ?_
      rintro e W5 ⟨rfl, hb⟩
      have HB5 := hide (bel HB3.out hb)
      clear hb HB3
      go_wp2_with fail
      refine (HWd.out _).mono ?_
      rintro e W6 ⟨rfl, rfl⟩
      go_wp2_with fail
      go_ret
      exact ⟨rfl, HB5.out⟩
  | true =>
    obtain ⟨T0, hT0, hab⟩ := names_tks hw
    have HT0 := hide (show tks (bs ((⟨#[108, 101, 116, 32]⟩ ++ s : ByteArray) ++ ⟨#[61, 49, 59, 50]⟩)) = some T0 by rw [bs_add, bs_add]; exact hT0)
    have HAB := hide hab
    rw [hw] at HWd
    clear hT0 hab hw
    cases hr : resv (bs s) with
    | true =>
      have HN := hide (names_no hr)
      rw [hr] at HRs HQs
      clear hr
      go_enter Try.func4, Try.ntmps4
      go_wp2_with fail
      refine (parse_read _ _).mono ?_
      rintro e W1 (⟨rfl, hb, -⟩ | ⟨T, NM, es, ex, na, nc, ba, bc, da, dc, hT, hA, -, -, rfl, -, -, -, hb⟩)
      · have HB := hide hb
        clear hb
        go_wp2_with fail
        refine (HWd.out _).mono ?_
        rintro e W2 ⟨rfl, rfl⟩
        go_wp2_with fail
        refine (HQs.out _).mono ?_
        rintro e W3 ⟨rfl, hb⟩
        have HB3 := hide (bel (bel HB.out (bel1 _ _)) hb)
        clear hb HB
        go_wp2_with fail
        refine (awake_any _).mono ?_
        rintro e W4 ⟨rfl, hb⟩
        have HB4 := hide (bel HB3.out hb)
        clear hb HB3
        go_wp2_with fail
        refine (HRs.out _).mono ?_
        rintro e W5 ⟨rfl, rfl⟩
        go_wp2_with fail
        refine (HQs.out _).mono ?_
        rintro e W6 ⟨rfl, hb⟩
        have HB6 := hide (bel HB4.out hb)
        clear hb HB4
        go_wp2_with fail
        refine (HWd.out _).mono ?_
        rintro e W7 ⟨rfl, rfl⟩
        go_wp2_with fail
        go_ret
        exact ⟨rfl, HB6.out⟩
      · exfalso
        rw [HT0.out] at hT
        cases hT
        rw [HAB.out] at hA
        exact HN.out _ ((hA _).1 rfl)
    | false =>
      have HG := hide (names_gp hr)
      rw [hr] at HRs HQs
      clear hr
      go_enter Try.func4, Try.ntmps4
      go_wp2_with fail
      refine (parse_read _ _).mono ?_
      rintro e W1 (⟨-, -, hbad⟩ | ⟨T, NM, es, ex, na, nc, ba, bc, da, dc, hT, hA, -, -, rfl, hx, hi, -, hb⟩)
      · exfalso
        rw [HT0.out] at hbad
        rcases hbad with h | ⟨T, h, h2⟩
        · cases h
        · cases h
          rw [HAB.out] at h2
          have := (h2 _).2 HG.out
          cases this
      · rw [HT0.out] at hT
        cases hT
        rw [HAB.out] at hA
        have := (hA _).2 HG.out
        cases this
        rw [show szL [E.leaf (lf 1 1 0 0 0 0)] + (E.leaf (lf 1 2 0 0 0 0)).size = 2 from rfl, show [E.leaf (lf 1 1 0 0 0 0)].length = 1 from rfl] at *
        have HB := hide hb
        have HX := hide hx
        have HI := hide hi
        clear hb hA hx hi
        go_wp2_with fail
        refine (HWd.out _).mono ?_
        rintro e W2 ⟨rfl, rfl⟩
        go_wp2_with fail
        refine (HQs.out _).mono ?_
        rintro e W3 ⟨rfl, hb⟩
        have HC3 := hide ((HasC.new W1 26 (tr4 (.slice na 1 nc) (.slice ba 1 bc) (.slice da 2 dc) (.int .i64 1))).below hb)
        have HB3 := hide (bel (bel1 W1 (.cells (tr4 (.slice na 1 nc) (.slice ba 1 bc) (.slice da 2 dc) (.int .i64 1)) 26)) hb)
        clear hb
        go_wp2_with fail
        refine (awake_any _).mono ?_
        rintro e W4 ⟨rfl, hb⟩
        have HC4 := hide (HC3.out.below hb)
        have HB4 := hide (bel HB3.out hb)
        clear hb HB3 HC3
        go_wp2_with fail
        refine (HRs.out _).mono ?_
        rintro e W5 ⟨rfl, rfl⟩
        go_wp2_with fail
        refine (HQs.out _).mono ?_
        rintro e W6 ⟨rfl, hb⟩
        have HC6 := hide (HC4.out.below hb)
        have HB6 := hide (bel HB4.out hb)
        have hx6 := HX.out.later HB6.out
        have hi6 := HI.out.later HB6.out
        have hle1 := hx6.le
        have hle2 := hi6.le
        obtain ⟨g1, o1, rfl, x1⟩ : ∃ b off, na = some ⟨b, off, none⟩ ∧ W6.cell? ⟨b, off, none⟩ = some (.string s) := by
          rcases hx6.cell with h | ⟨b, off, ha, hc⟩
          · cases h
          · exact ⟨b, off, ha, by have := hc 0 (by decide); simpa [sB_bs] using this⟩
        obtain ⟨g2, o2, rfl, x2⟩ : ∃ b off, ba = some ⟨b, off, none⟩ ∧ W6.cell? ⟨b, off, none⟩ = some (.int .i64 0) := by
          rcases hi6.cell with h | ⟨b, off, ha, -, hc⟩
          · cases h
          · exact ⟨b, off, ha, hc 0 (by decide)⟩
        obtain ⟨c0, c1, c2, c3⟩ := facts4 HC6.out
        clear hb HB4 HC4 hx6 hi6
        go_wp2_with fail
        go_ret
        exact ⟨rfl, bel HB.out HB6.out⟩

theorem names_walk (s : ByteArray) (w : World) (hs : s.data.toList.length ≤ reachBytes) :
    Calls Try.prog 4 #[.string s] w fun e w' => e = .returned (.bool true) ∧ Below w.heap.size w w' :=
  names_walk0 s w (by rw [← bs_len]; unfold reachBytes at hs; exact Nat.le_trans hs (by decide))

end Go.Proofs.Ytamekjocchekoaa
