/-
  OctetPuts holds: for every number n, octet.Uint and octet.Int answer the document's bytes and errors; and the argument reads as before. No condition.
-/
import Derived.Test.YtibaejoonmedjaaRows
import Derived.Test.YtibaejoonmedjaaCom
import Derived.ProofKit
import Derived.OpenShut
import Derived.ChangeOld
import Derived.Below
namespace Go.Proofs.Ytibaejoonmedjaa
open Go.ChangeShapes Go.WideShapes Go.ChangeAt Go.RowKit Oct
set_option linter.unusedVariables false

set_option maxHeartbeats 1000000 in
theorem puts_walk (n : Int) (w : World) (h0 : -9223372036854775808 ≤ n) (h1 : n ≤ 9223372036854775807) :
    Calls Try.prog 3 #[.int .i64 n] w fun e w' => e = .returned (.bool true) ∧ Below w.heap.size w w' := by
  by_cases hn : n < 0
  · go_enter Try.func3, Try.ntmps3
    go_wp2_with (first
      | (go_at_call 9; refine (uint_neg n _ hn).mono ?_; rintro e w1 ⟨rfl, rfl⟩)
      | (go_at_call 10; refine (refUint_neg n _ hn).mono ?_; rintro e w1 ⟨rfl, rfl⟩)
      | (go_at_call 11; refine (awake_any _).mono ?_; rintro e w2 ⟨rfl, hb1⟩))
    refine (same_self none none 0 0 0 0 [] _ (bytes_nil _) (bytes_nil _)).mono ?_
    rintro e w3 ⟨rfl, q, rfl⟩
    go_wp2_with fail
    refine (int_b n _ h0 h1).mono ?_
    rintro e w4 ⟨a4, c4, rfl, hB4, hb4⟩
    have HB4 : Hid (Below w1.heap.size w1 w4) := below_step (below_drewN hb1 q) hb4
    have HS4 : Hid (Bytes w4 a4 (vint (zz n)).length c4 (vint (zz n))) := hB4
    clear hb1 hb4 hB4
    go_wp2_with fail
    refine (refInt_b n _ h0 h1).mono ?_
    rintro e w5 ⟨a5, c5, rfl, hB5, hb5⟩
    have HB5 : Hid (Below w1.heap.size w1 w5) := below_step HB4.out hb5
    have HS5 : Hid (Bytes w5 a4 (vint (zz n)).length c4 (vint (zz n))) := HS4.out.later hb5
    have HT5 : Hid (Bytes w5 a5 (vint (zz n)).length c5 (vint (zz n))) := hB5
    clear hb5 hB5
    go_wp2_with fail
    refine (same_self a4 a5 _ _ c4 c5 _ _ HS5.out HT5.out).mono ?_
    rintro e w6 ⟨rfl, q6, rfl⟩
    go_wp2_with fail
    go_ret
    exact ⟨rfl, below_drewN HB5.out q6⟩
  · go_enter Try.func3, Try.ntmps3
    go_wp2_with fail
    refine (uint_b n _ (by omega) h1).mono ?_
    rintro e w1 ⟨a1, c1, rfl, hB1, hb1⟩
    have HB1 : Hid (Below w.heap.size w w1) := hb1
    have HS1 : Hid (Bytes w1 a1 (vint n).length c1 (vint n)) := hB1
    clear hb1 hB1
    go_wp2_with fail
    refine (refUint_b n _ (by omega) h1).mono ?_
    rintro e w2 ⟨a2, c2, rfl, hB2, hb2⟩
    have HB2 : Hid (Below w.heap.size w w2) := below_step HB1.out hb2
    have HS2 : Hid (Bytes w2 a1 (vint n).length c1 (vint n)) := HS1.out.later hb2
    have HT2 : Hid (Bytes w2 a2 (vint n).length c2 (vint n)) := hB2
    clear hb2 hB2
    go_wp2_with fail
    refine (awake_any _).mono ?_
    rintro e w3 ⟨rfl, hb3⟩
    have HB3 : Hid (Below w.heap.size w w3) := below_step HB2.out hb3
    have HS3 : Hid (Bytes w3 a1 (vint n).length c1 (vint n)) := HS2.out.later hb3
    have HT3 : Hid (Bytes w3 a2 (vint n).length c2 (vint n)) := HT2.out.later hb3
    clear hb3
    go_wp2_with fail
    refine (same_self a1 a2 _ _ c1 c2 _ _ HS3.out HT3.out).mono ?_
    rintro e w4 ⟨rfl, q4, rfl⟩
    go_wp2_with fail
    refine (int_b n _ h0 h1).mono ?_
    rintro e w4 ⟨a4, c4, rfl, hB4, hb4⟩
    have HB4 : Hid (Below w.heap.size w w4) := below_step (below_drewN HB3.out q4) hb4
    have HS4 : Hid (Bytes w4 a4 (vint (zz n)).length c4 (vint (zz n))) := hB4
    clear hb4 hB4
    go_wp2_with fail
    refine (refInt_b n _ h0 h1).mono ?_
    rintro e w5 ⟨a5, c5, rfl, hB5, hb5⟩
    have HB5 : Hid (Below w.heap.size w w5) := below_step HB4.out hb5
    have HS5 : Hid (Bytes w5 a4 (vint (zz n)).length c4 (vint (zz n))) := HS4.out.later hb5
    have HT5 : Hid (Bytes w5 a5 (vint (zz n)).length c5 (vint (zz n))) := hB5
    clear hb5 hB5
    go_wp2_with fail
    refine (same_self a4 a5 _ _ c4 c5 _ _ HS5.out HT5.out).mono ?_
    rintro e w6 ⟨rfl, q6, rfl⟩
    go_wp2_with fail
    go_ret
    exact ⟨rfl, below_drewN HB5.out q6⟩

set_option maxRecDepth 100000 in
theorem octetPuts_lifted (os : Os) (started : os.Started) (H : Type) (enc : TypeId × Value → H) :
    ReturnsInHanded {} Try.checked os 3 .any (Rows.octetPutsSpec.pre6 enc Try.prog Try.f3 Rows.octetPutsRow.domain false) (Rows.octetPutsSpec.post enc Try.prog Try.f3 false true false false) := by
  refine returnsInHanded_of_change (C := Try.checked) own started (by kernel_rfl) Try.func3
    (ChangeSpec.witness6 (enc := enc) (C := Try.checked) false ⟨#[], #[.int .i64 0], []⟩ 8 (by kernel_rfl) (by kernel_rfl) (by kernel_rfl) (by kernel_rfl)) ?_
  intro W base args ds gs before hval0 hW hcnd _
  have hval : ∀ (j : Nat) t v, Try.f3.params[j]? = some t → args[j]? = some v → Value.okWide Try.prog W .any base t v := hval0
  have hW' := hW
  obtain ⟨p, q, hA0, hV, rfl, hfz, hnd⟩ := hW
  have hA : DataW.TrodAll enc Try.prog W 0 (fun _ => true) true Try.f3.params.toList args.toList ds p := hA0
  rw [Try.params3] at hA hval
  obtain ⟨v0, vs0, d0, ds0, p0, q0, hargs, rfl, rfl, h0, r0⟩ := trodAll_cons hA
  obtain ⟨rfl, rfl, rfl⟩ := trodAll_nil r0
  obtain rfl : args = #[v0] := by cases args; simp_all
  obtain ⟨rfl, rfl⟩ := trodVars_none hV
  obtain ⟨a0, rfl, rfl, rfl, w0⟩ := open_int Try.underlying3 (hval 0 3 v0 rfl rfl) h0
  clear hA0 hval0
  refine (puts_walk a0 W (wf_i64 w0).1 (wf_i64 w0).2).mono fun e W' ⟨he, bel⟩ => ?_
  subst he
  exact ⟨_, rfl, _, _, _, [], _, [], hW', trodAll_mk1 (shut_bool Try.underlying4 _), trodAll_cons_mk (shut_int Try.underlying3 w0) trodAll_mk0, rfl, bel.frame _, fun h => by cases h⟩

theorem octetPuts_holds : Rows.OctetPutsSaid :=
  OpenClaim.holds_of_wide 3 Try.f3 rfl rfl rfl rfl rfl rfl rfl ⟨rfl, rfl, rfl, rfl, rfl⟩ rfl rfl rfl rfl rfl (by kernel_rfl) Try.func3 (by kernel_rfl)
    (of_decide_eq_true (by kernel_rfl)) (by unfold Func.isWrapper; first | (rw [if_pos (by decide +kernel)]; kernel_rfl) | (rw [if_neg (by decide +kernel)]; exact ⟨rfl, rfl⟩))
    (fun os started H enc _ => octetPuts_lifted os started H enc)
#print axioms octetPuts_holds

end Go.Proofs.Ytibaejoonmedjaa
