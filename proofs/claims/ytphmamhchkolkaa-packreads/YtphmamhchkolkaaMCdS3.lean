/-
  The document's Held: the code that Roomy made is as it was.
-/
import Derived.Test.YtphmamhchkolkaaMCdS
import Derived.Test.YtphmamhchkolkaaMCdS2
namespace Go.Proofs.Cde
open Go.RowKit Go.IntWalk Ytphmamhchkolkaa.Knd Go.Sort
set_option linter.unusedVariables false

theorem sameB_self (f d o : Int) (L : List In) : sameB f d o L f d o L = true := by simp [sameB]

set_option maxRecDepth 100000 in
set_option maxHeartbeats 4000000 in
theorem heldC_any (f d o : Int) {a : Option Addr} {g n c cap : Nat} {L : List In} {W : World} (h1 : Ins W (some ⟨g, 0, none⟩) (n + 1) c (L ++ [mk7])) (h2 : Ins W a n cap L) :
    Calls Try.prog 13 #[.agg (cd f d (some ⟨g, 0, none⟩) n c o), .agg (cd f d a n cap o)] W fun r W' => r = .returned (.bool true) ∧ Below W.heap.size W W' := by
  have hb1 := bel (bel1 W (.cells (cd f d (some ⟨g, 0, none⟩) n c o) 26)) (bel1 (W.alloc (.cells (cd f d (some ⟨g, 0, none⟩) n c o) 26)) (.cells (cd f d a n cap o) 26))
  have HB := hide hb1
  have HC0 := hide ((HasC.new W 26 (cd f d (some ⟨g, 0, none⟩) n c o)).alloc (.cells (cd f d a n cap o) 26))
  have HD0 := hide (has_new1 W (.cells (cd f d (some ⟨g, 0, none⟩) n c o) 26) 26 (cd f d a n cap o))
  have hl := h2.len
  have h3 := h1.take (k := n) (by omega)
  rw [← hl, List.take_left, hl] at h3
  have hlc := h1.le
  have hn := h1.short
  obtain ⟨b, off, e, -, hat⟩ := (h1.later hb1).at (by omega)
  cases e
  obtain ⟨m0, -⟩ := hat n (by omega)
  have hm : (L ++ [mk7]).getD n i0 = mk7 := by rw [← hl]; simp
  rw [hm, Nat.zero_add] at m0
  change _ = some (Value.int .i64 7777) at m0
  have HS := hide fun (V : World) (hb : Below W.heap.size W V) => xsame_any f d o f d o (h3.later hb) (h2.later hb)
  rw [sameB_self] at HS
  have hw : IntKind.i64.wrap ((n : Int) + 1) = (n : Int) + 1 := by rw [IntKind.wrap_i64]; omega
  have i0 : (0 : Int) ≤ n := by omega
  have i1 : (n : Int) + 1 ≤ c := by omega
  have i2 : (0 : Int) ≤ (n : Int) + 1 := by omega
  have i3 : (n : Int) < (n : Int) + 1 := by omega
  clear hb1 h1 h2 h3 hl hat hm
  go_enter Try.func13, Try.ntmps13
  go_wp2_with fail
  obtain ⟨V0, hV0⟩ : ∃ V0, (W.alloc (.cells (cd f d (some ⟨g, 0, none⟩) n c o) 26)).alloc (.cells (cd f d a n cap o) 26) = V0 := ⟨_, rfl⟩
  rw [hV0] at HB HC0 HD0 m0 ⊢
  clear hV0
  obtain ⟨x0, x1, x2, x3⟩ := four_of HC0.out
  obtain ⟨y0, y1, y2, y3⟩ := four_of HD0.out
  have k0 := cell_regrown x0
  have k1 := cell_regrown x1
  have k2 := cell_regrown x2
  have k3 := cell_regrown x3
  have j0 := cell_regrown y0
  have j1 := cell_regrown y1
  have j2 := cell_regrown y2
  have j3 := cell_regrown y3
  have m1 := cell_regrown m0
  refine wp_region_quiet_below mixed0 (by kernel_rfl) ?_
  repeat (first | go_big_quiet_step (first
    | (go_at_call 18; exact Calls.regrown_of (HS.out _ (bel HB.out (below_regrown _ _ _))))))
  refine wpQuiet_nil ?_
  intro V2 hw'
  obtain ⟨⟨dq, osq⟩, hw''⟩ := hw'
  have hb := below_regrown V0 dq osq
  simp only at hw''
  rw [← hw''] at hb
  clear hw'' k0 k1 k2 k3 j0 j1 j2 j3 m1
  go_wp2_with fail
  go_ret
  exact ⟨rfl, bel HB.out hb⟩

end Go.Proofs.Cde
