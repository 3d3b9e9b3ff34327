/-
  BitsSplit holds: for every number of 32 bits, width and cut, a number of bits is those of its upper part and those of its lower part, one behind the other; and the arguments read as before. No condition.
-/
import Derived.Test.YtkmhdkeneggceaaRows
import Derived.Test.YtkmhdkeneggceaaTwo
import Derived.ProofKit
import Derived.OpenShut
import Derived.ChangeOld
import Derived.Below
namespace Go.Proofs.Ytkmhdkeneggceaa
open Go.ChangeShapes Go.WideShapes Go.ChangeAt Go.RowKit Bt
set_option linter.unusedVariables false

theorem own' : ownKnob Try.prog.godebug = none := by kernel_rfl

theorem low_bit (x : Int) (e t : Nat) : x % 2 ^ (e + 1 + t) / 2 ^ e % 2 = x / 2 ^ e % 2 := by
  have hp : (2 : Int) ^ e ≠ 0 := Int.ne_of_gt (Int.pow_pos (by decide))
  have h1 : x = x % 2 ^ (e + 1 + t) + 2 ^ e * (2 * (2 ^ t * (x / 2 ^ (e + 1 + t)))) := by
    have := Int.emod_add_mul_ediv x (2 ^ (e + 1 + t))
    have e2 : (2 : Int) ^ (e + 1 + t) = 2 ^ e * (2 * 2 ^ t) := by rw [Int.pow_add, Int.pow_add, Int.mul_assoc]; rfl
    generalize hq : x / 2 ^ (e + 1 + t) = q at *
    generalize hr : x % 2 ^ (e + 1 + t) = y at *
    rw [e2] at this
    rw [← this]
    simp only [Int.mul_assoc]
  have h2 : x / 2 ^ e = x % 2 ^ (e + 1 + t) / 2 ^ e + 2 * (2 ^ t * (x / 2 ^ (e + 1 + t))) := by
    conv => lhs; rw [h1]
    rw [Int.add_mul_ediv_left _ _ hp]
  rw [h2, Int.add_mul_emod_self_left]

theorem binw_split (x : Int) (k c : Nat) (h : c ≤ k) : binw x k = binw (x / 2 ^ c) (k - c) ++ binw (x % 2 ^ c) c := by
  apply List.ext_getElem
  · simp [binw_len]; omega
  · intro i h1 h2
    rw [binw_len] at h1
    rw [List.getElem_append]
    split
    · rename_i hi
      rw [binw_len] at hi
      simp only [binw, List.getElem_map, List.getElem_range]
      rw [Int.ediv_ediv_of_nonneg (Int.pow_nonneg (by decide)), ← Int.pow_add, show c + (k - c - 1 - i) = k - 1 - i by omega]
    · rename_i hi
      rw [binw_len] at hi
      simp only [binw, List.getElem_map, List.getElem_range, List.length_map, List.length_range]
      rw [show c - 1 - (i - (k - c)) = k - 1 - i by omega, show c = (k - 1 - i) + 1 + (c - 1 - (k - 1 - i)) by omega, low_bit]

theorem split_facts (n : Int) (k c : Nat) (h0 : 0 ≤ n) (h1 : n ≤ 4294967295) (hk : k ≤ 32) (hc : c ≤ k) :
    0 ≤ n / 2 ^ (32 - k) ∧ n / 2 ^ (32 - k) < 2 ^ k ∧ 0 ≤ n / 2 ^ (32 - k) / 2 ^ c ∧ n / 2 ^ (32 - k) / 2 ^ c < 2 ^ (k - c) ∧
    n / 2 ^ (32 - k) - n / 2 ^ (32 - k) / 2 ^ c * 2 ^ c = n / 2 ^ (32 - k) % 2 ^ c ∧ 0 ≤ n / 2 ^ (32 - k) % 2 ^ c ∧ n / 2 ^ (32 - k) % 2 ^ c < 2 ^ c ∧ n / 2 ^ (32 - k) ≤ 4294967295 ∧ 0 ≤ n / 2 ^ (32 - k) / 2 ^ c * 2 ^ c ∧ n / 2 ^ (32 - k) / 2 ^ c * 2 ^ c ≤ 4294967295 := by
  have p1 : (0 : Int) < 2 ^ (32 - k) := Int.pow_pos (by decide)
  have p2 : (0 : Int) < 2 ^ c := Int.pow_pos (by decide)
  have a1 : 0 ≤ n / 2 ^ (32 - k) := Int.ediv_nonneg h0 (Int.le_of_lt p1)
  have a2 : n / 2 ^ (32 - k) < 2 ^ k := by
    apply Int.ediv_lt_of_lt_mul p1
    rw [← Int.pow_add, show k + (32 - k) = 32 by omega]
    omega
  have a3 : n / 2 ^ (32 - k) ≤ n := Int.ediv_le_self _ h0
  generalize n / 2 ^ (32 - k) = x at *
  have a4 : 0 ≤ x / 2 ^ c := Int.ediv_nonneg a1 (Int.le_of_lt p2)
  have a5 : x / 2 ^ c < 2 ^ (k - c) := by
    apply Int.ediv_lt_of_lt_mul p2
    rw [← Int.pow_add, show k - c + c = k by omega]
    exact a2
  have a6 := Int.emod_nonneg x (Int.ne_of_gt p2)
  have a7 := Int.emod_lt_of_pos x p2
  have a8 := Int.ediv_mul_add_emod x (2 ^ c)
  have a9 : 0 ≤ x / 2 ^ c * 2 ^ c := Int.mul_nonneg a4 (Int.le_of_lt p2)
  exact ⟨a1, a2, a4, a5, by omega, a6, a7, by omega, a9, by omega⟩

set_option maxHeartbeats 4000000 in
set_option maxRecDepth 100000 in
theorem split_walk (n d c : Int) (w : World) (hn0 : 0 ≤ n) (hn1 : n ≤ 4294967295) :
    Calls Try.prog 6 #[.int .u32 n, .int .i64 d, .int .i64 c] w fun e w' => e = .returned (.bool true) ∧ Below w.heap.size w w' := by
  by_cases h1 : d < 0 ∨ 32 < d ∨ c < 0 ∨ d < c
  · by_cases g1 : d < 0
    · go_enter Try.func6, Try.ntmps6
      go_wp2_with fail
      refine (awake_any w).mono ?_
      rintro e w1 ⟨rfl, hB⟩
      go_wp2_with fail
      go_ret
      exact ⟨rfl, hB⟩
    · by_cases g2 : 32 < d
      · go_enter Try.func6, Try.ntmps6
        go_wp2_with fail
        refine (awake_any w).mono ?_
        rintro e w1 ⟨rfl, hB⟩
        go_wp2_with fail
        go_ret
        exact ⟨rfl, hB⟩
      · by_cases g3 : c < 0
        · go_enter Try.func6, Try.ntmps6
          go_wp2_with fail
          refine (awake_any w).mono ?_
          rintro e w1 ⟨rfl, hB⟩
          go_wp2_with fail
          go_ret
          exact ⟨rfl, hB⟩
        · have g4 : d < c := by omega
          clear h1
          go_enter Try.func6, Try.ntmps6
          go_wp2_with fail
          refine (awake_any w).mono ?_
          rintro e w1 ⟨rfl, hB⟩
          go_wp2_with fail
          go_ret
          exact ⟨rfl, hB⟩
  · obtain ⟨k, rfl⟩ := Int.eq_ofNat_of_zero_le (show 0 ≤ d by omega)
    obtain ⟨c, rfl⟩ := Int.eq_ofNat_of_zero_le (show 0 ≤ c by omega)
    have hk0 : ¬ (k : Int) < 0 := by omega
    have hk1 : ¬ (32 : Int) < (k : Int) := by omega
    have hc0 : ¬ (c : Int) < 0 := by omega
    have hc1 : ¬ (k : Int) < (c : Int) := by omega
    clear h1
    obtain ⟨a1, a2, a3, a4, a5, a6, a7, a8, a9, a10⟩ := split_facts n k c hn0 hn1 (by omega) (by omega)
    have A1 := hide a1
    have A2 := hide a2
    have A3 := hide a3
    have A4 := hide a4
    have A5 := hide a5
    have A6 := hide a6
    have A7 := hide a7
    clear a2 a3 a4 a5 a6 a7
    go_enter Try.func6, Try.ntmps6
    go_wp2_with fail
    generalize hx : n / 2 ^ (32 - k) = x at *
    refine (new_any w.heap.size w (Nat.le_refl _)).mono ?_
    rintro e w1 ⟨rfl, hW1, hB1⟩
    have HW1 := hide hW1
    have HB1 := hide hB1
    clear hW1 hB1
    go_wp2_with fail
    refine (new_any w.heap.size w1 HB1.out.size).mono ?_
    rintro e w2 ⟨rfl, hW2, hB2⟩
    have HT2 := hide (two_new (Nat.le_refl _) HW1.out HB1.out hW2 hB2)
    have HB2 := hide (HB1.out.trans (hB2.mono HB1.out.size))
    clear hW2 hB2 HW1 HB1
    generalize hR2 : w1.heap.size = R2 at *
    go_wp2_with fail
    refine (awake_any w2).mono ?_
    rintro e w3 ⟨rfl, hB3⟩
    have HT3 := hide (HT2.out.later hB3)
    have HB3 := hide (HB2.out.trans (hB3.mono HB2.out.size))
    clear HT2 HB2 hB3
    go_wp2_with fail
    refine (put_ok w.heap.size _ _ _ x k w3 HT3.out.one (by omega) A1.out A2.out (by decide)).mono ?_
    rintro e w4 ⟨rfl, v4, hW4, hG4⟩
    have HT4 := hide (HT3.out.step hW4 hG4).swap
    have HB4 := hide (HB3.out.trans (hG4.below HT3.out.one))
    clear hW4 hG4 HT3 HB3
    have ekc : (k : Int) - (c : Int) = ((k - c : Nat) : Int) := by omega
    go_wp2_with fail
    refine (put_ok w.heap.size _ _ _ (x / 2 ^ c) (k - c) w4 HT4.out.one (by omega) A3.out A4.out (by decide)).mono ?_
    rintro e w5 ⟨rfl, v5, hW5, hG5⟩
    have HT5 := hide (HT4.out.step hW5 hG5)
    have HB5 := hide (HB4.out.trans (hG5.below HT4.out.one))
    clear hW5 hG5 HT4 HB4
    go_wp2_with fail
    rw [A5.out]
    refine (put_ok w.heap.size _ _ _ (x % 2 ^ c) c w5 HT5.out.one (by omega) A6.out A7.out (by simp [binw_len]; omega)).mono ?_
    rintro e w6 ⟨rfl, v6, hW6, hG6⟩
    have HT6 := hide (HT5.out.step hW6 hG6).swap
    have HB6 := hide (HB5.out.trans (hG6.below HT5.out.one))
    clear hW6 hG6 HT5 HB5
    go_wp2_with fail
    refine (len_any w.heap.size _ _ _ w6 HT6.out.one).mono ?_
    rintro e w7 ⟨rfl, rfl⟩
    have hl : ([] ++ binw x k).length = k := by simp [binw_len]
    rw [hl]
    go_wp2_with fail
    refine (wbytes_b w.heap.size _ _ _ w7 HT6.out.one (by rw [hl]; omega)).mono ?_
    rintro e w8 ⟨a8', m8, c8, rfl, ho8, hy8, hb8⟩
    have HT8 := hide (HT6.out.later hb8)
    have HB8 := hide (HB6.out.trans (hb8.mono HB6.out.size))
    have HY8 := hide hy8
    clear ho8 hb8 hy8 HT6 HB6
    go_wp2_with fail
    refine (wbytes_b w.heap.size _ _ _ w8 HT8.out.two (by simp [binw_len]; omega)).mono ?_
    rintro e w9 ⟨a9', m9, c9, rfl, ho9, hy9, hb9⟩
    have HB9 := hide (HB8.out.trans (hb9.mono HB8.out.size))
    have HY9 := hide hy9
    have HY8' := hide (HY8.out.later hb9)
    have HEq : Hid (([] ++ binw (x / 2 ^ c) (k - c)) ++ binw (x % 2 ^ c) c = [] ++ binw x k) := hide (by rw [List.nil_append, List.nil_append]; exact (binw_split x k c (by omega)).symm)
    clear ho9 hb9 hy9 HT8 HB8 HY8
    go_wp2_with fail
    refine (same_self a8' a9' _ _ c8 c9 _ _ HY8'.out (HEq.out ▸ HY9.out)).mono ?_
    rintro e w10 ⟨rfl, q, rfl⟩
    have HB10 := hide (below_drewN HB9.out q)
    go_wp2_with fail
    go_ret
    exact ⟨rfl, HB10.out⟩

theorem wf_u32 {x : Int} (h : (Lit.int .u32 x).wf = true) : 0 ≤ x ∧ x ≤ 4294967295 := by
  simp [Lit.wf, IntKind.min, IntKind.max, IntKind.signed, IntKind.bits] at h
  exact ⟨by omega, by omega⟩

set_option maxRecDepth 100000 in
theorem bitsSplit_lifted (os : Os) (started : os.Started) (H : Type) (enc : TypeId × Value → H) :
    ReturnsInHanded {} Try.checked os 6 .any (Rows.bitsSplitSpec.pre6 enc Try.prog Try.f6 Rows.bitsSplitRow.domain false) (Rows.bitsSplitSpec.post enc Try.prog Try.f6 false true false false) := by
  refine returnsInHanded_of_change (C := Try.checked) own' started (by kernel_rfl) Try.func6
    (ChangeSpec.witness6 (enc := enc) (C := Try.checked) false ⟨#[], #[.int .u32 0, .int .i64 0, .int .i64 0], []⟩ 8 (by kernel_rfl) (by kernel_rfl) (by kernel_rfl) (by kernel_rfl)) ?_
  intro W base args ds gs before hval0 hW hcnd _
  have hval : ∀ (j : Nat) t v, Try.f6.params[j]? = some t → args[j]? = some v → Value.okWide Try.prog W .any base t v := hval0
  have hW' := hW
  obtain ⟨p, q, hA0, hV, rfl, hfz, hnd⟩ := hW
  have hA : DataW.TrodAll enc Try.prog W 0 (fun _ => true) true Try.f6.params.toList args.toList ds p := hA0
  rw [Try.params6] at hA hval
  obtain ⟨v0, vs0, d0, ds0, p0, q0, hargs, rfl, rfl, h0, r0⟩ := trodAll_cons hA
  obtain ⟨v1, vs1, d1, ds1, p1, q1, rfl, rfl, rfl, h1, r1⟩ := trodAll_cons r0
  obtain ⟨v2, vs2, d2, ds2, p2, q2, rfl, rfl, rfl, h2, r2⟩ := trodAll_cons r1
  obtain ⟨rfl, rfl, rfl⟩ := trodAll_nil r2
  obtain rfl : args = #[v0, v1, v2] := by cases args; simp_all
  obtain ⟨rfl, rfl⟩ := trodVars_none hV
  obtain ⟨a0, rfl, rfl, rfl, w0⟩ := open_int Try.underlying54 (hval 0 54 v0 rfl rfl) h0
  obtain ⟨a1, rfl, rfl, rfl, w1⟩ := open_int Try.underlying3 (hval 1 3 v1 rfl rfl) h1
  obtain ⟨a2, rfl, rfl, rfl, w2⟩ := open_int Try.underlying3 (hval 2 3 v2 rfl rfl) h2
  clear hA0 hval0
  obtain ⟨g0, g1⟩ := wf_u32 w0
  refine (split_walk a0 a1 a2 W g0 g1).mono fun e W' ⟨he, bel⟩ => ?_
  subst he
  exact ⟨_, rfl, _, _, _, [], _, [], hW', trodAll_mk1 (shut_bool Try.underlying4 _), trodAll_cons_mk (shut_int Try.underlying54 w0) (trodAll_cons_mk (shut_int Try.underlying3 w1) (trodAll_cons_mk (shut_int Try.underlying3 w2) trodAll_mk0)), rfl, bel.frame _, fun h => by cases h⟩

theorem bitsSplit_holds : Rows.BitsSplitSaid :=
  OpenClaim.holds_of_wide 6 Try.f6 rfl rfl rfl rfl rfl rfl rfl ⟨rfl, rfl, rfl, rfl, rfl⟩ rfl rfl rfl rfl rfl (by kernel_rfl) Try.func6 (by kernel_rfl)
    (of_decide_eq_true (by kernel_rfl)) (by unfold Func.isWrapper; first | (rw [if_pos (by decide +kernel)]; kernel_rfl) | (rw [if_neg (by decide +kernel)]; exact ⟨rfl, rfl⟩))
    (fun os started H enc _ => bitsSplit_lifted os started H enc)
#print axioms bitsSplit_holds

end Go.Proofs.Ytkmhdkeneggceaa
