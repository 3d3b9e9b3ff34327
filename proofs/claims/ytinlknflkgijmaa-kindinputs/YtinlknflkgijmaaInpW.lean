/-
  The walk of KindInputs.
-/
import Derived.Test.YtinlknflkgijmaaRInp
import Derived.Test.YtinlknflkgijmaaAwake
import Derived.Lib.QuietBelow
import Derived.BigQuiet
namespace Go.Proofs.Ytinlknflkgijmaa
open Go.RowKit Go.Sort
set_option linter.unusedVariables false

set_option maxRecDepth 100000 in
set_option maxHeartbeats 4000000 in
theorem inputs_walk (f d n : Int) (w : World) :
    Calls Try.prog 5 #[.agg #[.int .i64 f, .int .i64 d], .int .i64 n] w fun e w' => e = .returned (.bool true) ∧ Below w.heap.size w w' := by
  have HB1 := hide (bel1 w (.cells #[.int .i64 f, .int .i64 d] 23))
  have HK1 := hide (HasC.new w 23 #[.int .i64 f, .int .i64 d])
  go_enter Try.func5, Try.ntmps5
  go_wp2_with fail
  refine (input_any f d n _).mono ?_
  rintro e w2 ⟨rfl, hb2⟩
  have HK2 := hide (HK1.out.below hb2)
  have HB2 := hide (bel HB1.out hb2)
  clear hb2
  unfold inV
  obtain ⟨lo, hlo⟩ : ∃ lo, ((inZ f d n).getD (0, 0)).1 = lo := ⟨_, rfl⟩
  obtain ⟨hi, hhi⟩ : ∃ hi, ((inZ f d n).getD (0, 0)).2 = hi := ⟨_, rfl⟩
  obtain ⟨q, hq⟩ : ∃ q, (inZ f d n).isSome = q := ⟨_, rfl⟩
  have hV : inV f d n = .tuple #[.agg #[.int .i64 lo, .int .i64 hi], .bool q] := by rw [inV, hlo, hhi, hq]
  rw [hlo, hhi, hq]
  clear hlo hhi hq
  have HK3 := hide (HK2.out.alloc (.cells #[.int .i64 lo, .int .i64 hi] 37))
  have HB3 := hide (HB2.out.alloc HB2.out.size (.cells #[.int .i64 lo, .int .i64 hi] 37))
  have HA3 := hide (HasC.new w2 37 #[.int .i64 lo, .int .i64 hi])
  obtain ⟨x2, y2, -, -⟩ := facts2 HK3.out
  go_wp2_with fail
  refine (rinput_any f d n _).mono ?_
  rintro e w4 ⟨rfl, hb4⟩
  rw [hV]
  have HA5 := hide ((HA3.out.below hb4).alloc (.cells #[.int .i64 lo, .int .i64 hi] 37))
  have HB5 := hide ((bel HB3.out hb4).alloc (bel HB3.out hb4).size (.cells #[.int .i64 lo, .int .i64 hi] 37))
  have HC5 := hide (HasC.new w4 37 #[.int .i64 lo, .int .i64 hi])
  clear hb4 x2 y2 hV
  go_wp2_with fail
  refine (awake_any _).mono ?_
  rintro e w6 ⟨rfl, hb6⟩
  obtain ⟨a0, a1, -, -⟩ := facts2 (HA5.out.below hb6)
  obtain ⟨b0, b1, -, -⟩ := facts2 (HC5.out.below hb6)
  have HB6 := hide (bel HB5.out hb6)
  clear hb6
  cases q
  all_goals
    go_wp2
    go_ret
    exact ⟨rfl, HB6.out⟩

end Go.Proofs.Ytinlknflkgijmaa
