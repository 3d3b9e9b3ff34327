/-
  The walk of KindPlaces.
-/
import Derived.Test.YtinlknflkgijmaaRAt
import Derived.Test.YtinlknflkgijmaaAwake
namespace Go.Proofs.Ytinlknflkgijmaa
open Go.RowKit
set_option linter.unusedVariables false

set_option maxRecDepth 100000 in
set_option maxHeartbeats 4000000 in
theorem places_walk (f d : Int) (p : Plc) (hp : p.wf) (n : Int) (w : World) :
    Calls Try.prog 4 #[.agg #[.int .i64 f, .int .i64 d], .agg #[.int .i64 p.back, .int .i64 p.coords, .int .i64 p.x, .int .i64 p.y], .int .i64 n] w fun e w' => e = .returned (.bool true) ∧ Below w.heap.size w w' := by
  have HB1 := hide ((bel1 w (.cells #[.int .i64 f, .int .i64 d] 23)).alloc (by simp) (.cells (pcells p) 30))
  have HK1 := hide ((HasC.new w 23 #[.int .i64 f, .int .i64 d]).alloc (.cells (pcells p) 30))
  have hP : HasC ((w.alloc (.cells #[.int .i64 f, .int .i64 d] 23)).alloc (.cells (pcells p) 30)) (w.heap.size + 1) 30 (pcells p) := by
    have := HasC.new (w.alloc (.cells #[.int .i64 f, .int .i64 d] 23)) 30 (pcells p)
    rwa [World.size_alloc] at this
  have HP1 := hide hP
  clear hP
  go_enter Try.func4, Try.ntmps4
  go_wp2_with fail
  refine (number_any f d p hp _).mono ?_
  rintro e w2 ⟨rfl, hb2⟩
  have HK2 := hide (HK1.out.below hb2)
  have HP2 := hide (HP1.out.below hb2)
  have HB2 := hide (bel HB1.out hb2)
  clear hb2 HK1 HP1 HB1
  rw [num_same]
  simp only [optV]
  obtain ⟨a, ha⟩ : ∃ a, (rnumZ f d p).getD 0 = a := ⟨_, rfl⟩
  obtain ⟨q, hq⟩ : ∃ q, (rnumZ f d p).isSome = q := ⟨_, rfl⟩
  have HV : Hid (optV (rnumZ f d p) = .tuple #[.int .i64 a, .bool q]) := by unfold Hid; rw [optV, ha, hq]
  rw [ha, hq]
  clear ha hq
  obtain ⟨x2, y2, -, -⟩ := facts2 HK2.out
  obtain ⟨p0, p1, p2, p3, -, -, -, -⟩ := facts4 HP2.out
  go_wp2_with fail
  refine (rnumber_any f d p _).mono ?_
  rintro e w3 ⟨rfl, hb3⟩
  rw [HV.out]
  have HK3 := hide (HK2.out.below hb3)
  have HB3 := hide (bel HB2.out hb3)
  clear hb3 HK2 HP2 HB2 x2 y2 p0 p1 p2 p3 HV
  obtain ⟨x3, y3, -, -⟩ := facts2 HK3.out
  go_wp2_with fail
  refine (at_any f d n _).mono ?_
  rintro e w4 ⟨rfl, hb4⟩
  simp only [atV, pcells]
  obtain ⟨r, hr⟩ : ∃ r, (atZ f d n).getD zp = r := ⟨_, rfl⟩
  obtain ⟨t, ht⟩ : ∃ t, (atZ f d n).isSome = t := ⟨_, rfl⟩
  have HV : Hid (atV f d n = .tuple #[.agg #[.int .i64 r.back, .int .i64 r.coords, .int .i64 r.x, .int .i64 r.y], .bool t]) := by unfold Hid; rw [atV, hr, ht]; rfl
  rw [hr, ht]
  clear hr ht
  have HK4 := hide ((HK3.out.below hb4).alloc (.cells (pcells r) 30))
  have HB4 := hide ((bel HB3.out hb4).alloc (bel HB3.out hb4).size (.cells (pcells r) 30))
  have HA4 := hide (HasC.new w4 30 (pcells r))
  clear hb4 HK3 HB3 x3 y3
  obtain ⟨x4, y4, -, -⟩ := facts2 HK4.out
  simp only [pcells] at x4 y4
  go_wp2_with fail
  refine (rat_any f d n _).mono ?_
  rintro e w5 ⟨rfl, hb5⟩
  rw [HV.out]
  have HA5 := hide ((HA4.out.below hb5).alloc (.cells (pcells r) 30))
  have HB5 := hide ((bel HB4.out hb5).alloc (bel HB4.out hb5).size (.cells (pcells r) 30))
  have HC5 := hide (HasC.new w5 30 (pcells r))
  clear hb5 HK4 HB4 HA4 x4 y4 HV
  go_wp2_with fail
  refine (awake_any _).mono ?_
  rintro e w6 ⟨rfl, hb6⟩
  obtain ⟨a0, a1, a2, a3, -, -, -, -⟩ := facts4 (HA5.out.below hb6)
  obtain ⟨b0, b1, b2, b3, -, -, -, -⟩ := facts4 (HC5.out.below hb6)
  have HB6 := hide (bel HB5.out hb6)
  clear hb6
  cases q <;> cases t
  all_goals
    go_wp2
    go_ret
    exact ⟨rfl, HB6.out⟩

end Go.Proofs.Ytinlknflkgijmaa
