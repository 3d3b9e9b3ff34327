/-
  PackCut's walk.
-/
import Derived.Test.YtphmamhchkolkaaMPbW
import Derived.Test.YtphmamhchkolkaaMM5
namespace Go.Proofs.Pck
open Ytphmamhchkolkaa
open Go.RowKit Go.IntWalk Ytphmamhchkolkaa.Knd
open Ytphmamhchkolkaa.Ocm (Part joined u8s)
open Cde (In i0 ia cd is6 i6 Ins agL arN okI okT okT_at mcB mc_parts ccE below_drew four_of ccheck_any csame_any sameB)
set_option linter.unusedVariables false

theorem own_zero {W : World} {g : Nat} (h : HasC W g 5 #[]) {base : Nat} (hb : base ≤ g) : W.ownsRow base 5 1 (.slice (some ⟨g, 0, none⟩) 0 0) 0 (u8s []) := ⟨rfl, .inr ⟨g, 0, #[], rfl, hb, h, Nat.le_refl _, by decide, rfl, rfl⟩⟩
theorem Bl.bytes {W V : World} {a : Option Addr} {n c : Nat} {zs : List Int} (h : Bl W V (.slice a n c) zs) (hn : n = zs.length) (hz : Byts zs) : Ocm.Bytes V a n c zs := by
  subst hn
  obtain ⟨a', c', e, hB, -⟩ := byt_own h.s hz
  cases e
  exact hB
/-- What Decode answers of what is cut. -/
theorem de_cut2 {f d o : Int} {L : List In} (h : mcB f d L o = true) {k : Nat} (hk : k < (enC f d L o).length) : deC ((enC f d L o).take k) = (2, c0) :=
  de_cut h (List.take_append_drop k _) (fun e => by have := congrArg List.length e; simp at this; omega)

set_option maxRecDepth 100000 in
set_option maxHeartbeats 8000000 in
theorem pcut_walk (f d o cut : Int) {a b : Option Addr} {n cap m k : Nat} {L : List In} {ms : List Int} {W : World} (hL : Ins W a n cap L) (hM : Ocm.Bytes W b m k ms) (hs : n ≤ 2932031007317) (hs2 : m ≤ 140737488351232) :
    Calls Try.prog 7 #[.agg (cd f d a n cap o), .int .i64 cut, .slice b m k] W fun e W' => e = .returned (.bool true) ∧ Below W.heap.size W W' := by
  have hb0 := bel1 W (.cells (cd f d a n cap o) 26)
  have HP0 : Hid (Pk W (W.alloc (.cells (cd f d a n cap o) 26)) f d o a n cap L) := hide ⟨HasC.new _ _ _, hL.later hb0, hb0⟩
  have HE := hide (encode_any f d o HP0.out.i)
  have HA := hide fun V => pawake_any V
  have HMs := hide hM
  have HMl := hide hM.len
  have HMb : Hid (Byts ms) := hide hM.byte
  clear hL hb0 hM
  by_cases hm : mcB f d L o = true
  · rw [show enR f d L o = (0, enC f d L o) from if_pos hm] at HE
    have hlen := enC_len hm
    have HBy := hide (enC_byt hm)
    have HDb := hide (de_back hm)
    have HDc := hide fun j (hj : j < (enC f d L o).length) => de_cut2 hm hj
    have HDt := hide fun (h0 : ms ≠ []) => de_tail hm h0
    obtain ⟨Z, hZ⟩ : ∃ Z, enC f d L o = Z := ⟨_, rfl⟩
    rw [hZ] at HE hlen HBy HDb HDc HDt
    obtain ⟨z, hz⟩ : ∃ z, Z.length = z := ⟨_, rfl⟩
    rw [hz] at hlen HDc HDt
    obtain ⟨l1, l2⟩ := hlen
    have HZl := hide hz
    unfold EnP at HE
    dsimp only at HE
    rw [hz] at HE
    clear hm hZ hz
    go_enter Try.func7, Try.ntmps7
    go_wp2_with fail
    refine HE.out.mono ?_
    rintro e V1 ⟨x, c1, rfl, hO, hb⟩
    obtain ⟨a', c', ea, hY, -⟩ := byt_own hO HBy.out
    cases ea
    have HB1 := hide (bel HP0.out.lo hb)
    have HY1 := hide hY
    have hc1 := hY.le
    clear hO hY hb HE HP0
    go_wp2_with fail
    refine (HA.out _).mono ?_
    rintro e V2 ⟨rfl, hb⟩
    have HB2 := hide (bel HB1.out hb)
    have HY2 := hide (HY1.out.later hb)
    clear hb HB1 HY1 HA
    by_cases hc : 0 ≤ cut ∧ cut < z
    · obtain ⟨hc0, hcz⟩ := hc
      obtain ⟨q, hq⟩ : ∃ q : Nat, cut = q := ⟨cut.toNat, by omega⟩
      subst hq
      have hq1 : q < z := by omega
      have hq2 : (q : Int) ≤ c1 := by omega
      have hT := HY2.out.take (k := q) (by omega)
      have HD := hide (decode_any hT)
      rw [HDc.out q hq1] at HD
      clear hT
      go_wp2_with fail
      refine HD.out.mono ?_
      rintro e V3 ⟨a3, n3, c3, rfl, hO, hb⟩
      have hb4 := bel1 V3 (.cells (cd 0 0 a3 n3 c3 0) 26)
      have HB4 := hide (bel (bel HB2.out hb) hb4)
      have HY4 := hide ((HY2.out.later hb).later hb4)
      dsimp only [c0]
      clear hO hb hb4 HD HB2 HY2 hc0 hcz hq1 hq2
      have hbx := bel1 (V3.alloc (.cells (cd 0 0 a3 n3 c3 0) 26)) (.cells #[] 5)
      have HBl : Hid (Bl W ((V3.alloc (.cells (cd 0 0 a3 n3 c3 0) 26)).alloc (.cells #[] 5)) (.slice (some ⟨V3.heap.size + 1, 0, none⟩) 0 0) []) := hide ⟨own_zero (Cde.has_new1 V3 (.cells (cd 0 0 a3 n3 c3 0) 26) 5 #[]) (by have := HB4.out.size; (try simp at this); omega), bel HB4.out hbx⟩
      have HYb := hide (HY4.out.later hbx)
      have HDe : Hid (∃ er R, deC (Z ++ ms) = (er, R) ∧ ((m = 0 ∧ er = 0) ∨ (0 < m ∧ 4096 < z + m ∧ er = 4) ∨ (0 < m ∧ ¬ 4096 < z + m ∧ er = 5))) := hide (by
        by_cases h0 : ms = []
        · subst h0
          exact ⟨0, _, by rw [List.append_nil]; exact HDb.out, .inl ⟨by simpa using HMl.out.symm, rfl⟩⟩
        · have h1 := HDt.out h0
          have h2 : 0 < m := by rw [← HMl.out]; exact List.length_pos_iff.2 h0
          rw [HMl.out] at h1
          by_cases h3 : 4096 < z + m
          · rw [if_pos h3] at h1
            exact ⟨4, _, h1, .inr (.inl ⟨h2, h3, rfl⟩)⟩
          · rw [if_neg h3] at h1
            exact ⟨5, _, h1, .inr (.inr ⟨h2, h3, rfl⟩)⟩)
      clear hbx HB4 HY4 HDb HDt HDc hs
      go_wp2_with (first
        | (at_builtin; refine app_list HBl.out HYb.out (by simp; omega) rfl _ _ rfl rfl rfl ?_
           intro x5 y5 z5 w5 hB5 hn5 _
           rw [List.nil_append] at hB5
           rw [List.length_nil, Nat.zero_add] at hn5
           obtain rfl : z = y5 := hn5.symm
           have HBl5 := hide hB5
           have HM5 := hide (HMs.out.later hB5.lo)
           clear hB5)
        | (at_builtin; refine app_list HBl5.out HM5.out (by rw [HZl.out]; omega) rfl _ _ rfl rfl rfl ?_
           intro x6 y6 z6 w6 hB6 hn6 _
           rw [HZl.out] at hn6
           subst hn6
           have HBl6 := hide hB6
           clear hB6))
      have HD6 := hide (decode_any (HBl6.out.bytes (by rw [List.length_append, HZl.out, HMl.out]) (HBy.out.app HMb.out)))
      obtain ⟨er, R, hR, hcs⟩ := HDe.out
      rw [hR] at HD6
      have HB6 := hide HBl6.out.lo
      clear hR HDe HBl HYb HBl5 HM5 HBl6
      refine HD6.out.mono ?_
      rintro e V7 ⟨a7, n7, c7, rfl, -, hb⟩
      have HB7 := hide (bel (bel HB6.out hb) (bel1 V7 (.cells (cd R.1 R.2.1 a7 n7 c7 R.2.2.2) 26)))
      clear hb HD6 HB6
      rcases hcs with ⟨h1, rfl⟩ | ⟨h1, h2, rfl⟩ | ⟨h1, h2, rfl⟩
      · subst h1
        go_wp2_with fail
        go_ret
        exact ⟨rfl, HB7.out⟩
      · have j1 : ((m : Int) == 0) = false := by simp; omega
        have j2 : 4096 - (m : Int) < z := by omega
        go_wp2_with fail
        go_ret
        exact ⟨rfl, HB7.out⟩
      · have j1 : ((m : Int) == 0) = false := by simp; omega
        have j2 : ¬ 4096 - (m : Int) < z := by omega
        go_wp2_with fail
        go_ret
        exact ⟨rfl, HB7.out⟩
    · clear hc1
      have HB4 := HB2
      have HY4 := HY2
      clear HB2 HY2
      by_cases hcc : 0 ≤ cut
      · have j1 : ¬ cut < z := fun h => hc ⟨hcc, h⟩
        clear hc
        have hbx := bel1 (V2) (.cells #[] 5)
        have HBl : Hid (Bl W ((V2).alloc (.cells #[] 5)) (.slice (some ⟨V2.heap.size, 0, none⟩) 0 0) []) := hide ⟨own_zero (HasC.new V2 5 #[]) (by have := HB4.out.size; (try simp at this); omega), bel HB4.out hbx⟩
        have HYb := hide (HY4.out.later hbx)
        have HDe : Hid (∃ er R, deC (Z ++ ms) = (er, R) ∧ ((m = 0 ∧ er = 0) ∨ (0 < m ∧ 4096 < z + m ∧ er = 4) ∨ (0 < m ∧ ¬ 4096 < z + m ∧ er = 5))) := hide (by
          by_cases h0 : ms = []
          · subst h0
            exact ⟨0, _, by rw [List.append_nil]; exact HDb.out, .inl ⟨by simpa using HMl.out.symm, rfl⟩⟩
          · have h1 := HDt.out h0
            have h2 : 0 < m := by rw [← HMl.out]; exact List.length_pos_iff.2 h0
            rw [HMl.out] at h1
            by_cases h3 : 4096 < z + m
            · rw [if_pos h3] at h1
              exact ⟨4, _, h1, .inr (.inl ⟨h2, h3, rfl⟩)⟩
            · rw [if_neg h3] at h1
              exact ⟨5, _, h1, .inr (.inr ⟨h2, h3, rfl⟩)⟩)
        clear hbx HB4 HY4 HDb HDt HDc hs
        go_wp2_with (first
          | (at_builtin; refine app_list HBl.out HYb.out (by simp; omega) rfl _ _ rfl rfl rfl ?_
             intro x5 y5 z5 w5 hB5 hn5 _
             rw [List.nil_append] at hB5
             rw [List.length_nil, Nat.zero_add] at hn5
             obtain rfl : z = y5 := hn5.symm
             have HBl5 := hide hB5
             have HM5 := hide (HMs.out.later hB5.lo)
             clear hB5)
          | (at_builtin; refine app_list HBl5.out HM5.out (by rw [HZl.out]; omega) rfl _ _ rfl rfl rfl ?_
             intro x6 y6 z6 w6 hB6 hn6 _
             rw [HZl.out] at hn6
             subst hn6
             have HBl6 := hide hB6
             clear hB6))
        have HD6 := hide (decode_any (HBl6.out.bytes (by rw [List.length_append, HZl.out, HMl.out]) (HBy.out.app HMb.out)))
        obtain ⟨er, R, hR, hcs⟩ := HDe.out
        rw [hR] at HD6
        have HB6 := hide HBl6.out.lo
        clear hR HDe HBl HYb HBl5 HM5 HBl6
        refine HD6.out.mono ?_
        rintro e V7 ⟨a7, n7, c7, rfl, -, hb⟩
        have HB7 := hide (bel (bel HB6.out hb) (bel1 V7 (.cells (cd R.1 R.2.1 a7 n7 c7 R.2.2.2) 26)))
        clear hb HD6 HB6
        rcases hcs with ⟨h1, rfl⟩ | ⟨h1, h2, rfl⟩ | ⟨h1, h2, rfl⟩
        · subst h1
          go_wp2_with fail
          go_ret
          exact ⟨rfl, HB7.out⟩
        · have j1 : ((m : Int) == 0) = false := by simp; omega
          have j2 : 4096 - (m : Int) < z := by omega
          go_wp2_with fail
          go_ret
          exact ⟨rfl, HB7.out⟩
        · have j1 : ((m : Int) == 0) = false := by simp; omega
          have j2 : ¬ 4096 - (m : Int) < z := by omega
          go_wp2_with fail
          go_ret
          exact ⟨rfl, HB7.out⟩
      · clear hc
        have hbx := bel1 (V2) (.cells #[] 5)
        have HBl : Hid (Bl W ((V2).alloc (.cells #[] 5)) (.slice (some ⟨V2.heap.size, 0, none⟩) 0 0) []) := hide ⟨own_zero (HasC.new V2 5 #[]) (by have := HB4.out.size; (try simp at this); omega), bel HB4.out hbx⟩
        have HYb := hide (HY4.out.later hbx)
        have HDe : Hid (∃ er R, deC (Z ++ ms) = (er, R) ∧ ((m = 0 ∧ er = 0) ∨ (0 < m ∧ 4096 < z + m ∧ er = 4) ∨ (0 < m ∧ ¬ 4096 < z + m ∧ er = 5))) := hide (by
          by_cases h0 : ms = []
          · subst h0
            exact ⟨0, _, by rw [List.append_nil]; exact HDb.out, .inl ⟨by simpa using HMl.out.symm, rfl⟩⟩
          · have h1 := HDt.out h0
            have h2 : 0 < m := by rw [← HMl.out]; exact List.length_pos_iff.2 h0
            rw [HMl.out] at h1
            by_cases h3 : 4096 < z + m
            · rw [if_pos h3] at h1
              exact ⟨4, _, h1, .inr (.inl ⟨h2, h3, rfl⟩)⟩
            · rw [if_neg h3] at h1
              exact ⟨5, _, h1, .inr (.inr ⟨h2, h3, rfl⟩)⟩)
        clear hbx HB4 HY4 HDb HDt HDc hs
        go_wp2_with (first
          | (at_builtin; refine app_list HBl.out HYb.out (by simp; omega) rfl _ _ rfl rfl rfl ?_
             intro x5 y5 z5 w5 hB5 hn5 _
             rw [List.nil_append] at hB5
             rw [List.length_nil, Nat.zero_add] at hn5
             obtain rfl : z = y5 := hn5.symm
             have HBl5 := hide hB5
             have HM5 := hide (HMs.out.later hB5.lo)
             clear hB5)
          | (at_builtin; refine app_list HBl5.out HM5.out (by rw [HZl.out]; omega) rfl _ _ rfl rfl rfl ?_
             intro x6 y6 z6 w6 hB6 hn6 _
             rw [HZl.out] at hn6
             subst hn6
             have HBl6 := hide hB6
             clear hB6))
        have HD6 := hide (decode_any (HBl6.out.bytes (by rw [List.length_append, HZl.out, HMl.out]) (HBy.out.app HMb.out)))
        obtain ⟨er, R, hR, hcs⟩ := HDe.out
        rw [hR] at HD6
        have HB6 := hide HBl6.out.lo
        clear hR HDe HBl HYb HBl5 HM5 HBl6
        refine HD6.out.mono ?_
        rintro e V7 ⟨a7, n7, c7, rfl, -, hb⟩
        have HB7 := hide (bel (bel HB6.out hb) (bel1 V7 (.cells (cd R.1 R.2.1 a7 n7 c7 R.2.2.2) 26)))
        clear hb HD6 HB6
        rcases hcs with ⟨h1, rfl⟩ | ⟨h1, h2, rfl⟩ | ⟨h1, h2, rfl⟩
        · subst h1
          go_wp2_with fail
          go_ret
          exact ⟨rfl, HB7.out⟩
        · have j1 : ((m : Int) == 0) = false := by simp; omega
          have j2 : 4096 - (m : Int) < z := by omega
          go_wp2_with fail
          go_ret
          exact ⟨rfl, HB7.out⟩
        · have j1 : ((m : Int) == 0) = false := by simp; omega
          have j2 : ¬ 4096 - (m : Int) < z := by omega
          go_wp2_with fail
          go_ret
          exact ⟨rfl, HB7.out⟩
  · rw [show enR f d L o = (15, []) from if_neg hm] at HE
    clear hm
    go_enter Try.func7, Try.ntmps7
    go_wp2_with fail
    refine HE.out.mono ?_
    rintro e V1 ⟨x, c1, rfl, -, hb⟩
    have HP1 := hide (HP0.out.later hb)
    clear hb HE HP0
    go_wp2_with fail
    refine (HA.out _).mono ?_
    rintro e V2 ⟨rfl, hb⟩
    have HP2 := hide (HP1.out.later hb)
    clear hb HP1
    go_wp2_with fail
    refine (HA.out _).mono ?_
    rintro e V3 ⟨rfl, hb⟩
    have HB := hide (bel HP2.out.lo hb)
    clear hb HP2
    go_wp2_with fail
    go_ret
    exact ⟨rfl, HB.out⟩

end Go.Proofs.Pck
