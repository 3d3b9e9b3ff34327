/-
  The walk of CheckCost.
-/
import Derived.Test.YtbgmljmpmemfcaaGreatZCostW
namespace Go.Proofs.YtbgmljmpmemfcaaGreat
open Go.RowKit Go.IntWalk Lx Pz
set_option linter.unusedVariables false

set_option maxRecDepth 100000 in
set_option maxHeartbeats 16000000 in
theorem cost_walk (f d : Int) (s : ByteArray) (n : Int) (w : World) (hmax : s.size ≤ maxLen) (hn : 0 ≤ n ∧ n ≤ 255) : Calls Tryz.prog 6 #[.agg (kdA f d), .string s, .int .u8 n] w fun e w' => e = .returned (.bool true) ∧ Below w.heap.size w w' := by
  have HA := hide awake_any
  have HK0 := hide (HasC.new w 23 (kdA f d))
  have HB0 := hide (bel1 w (.cells (kdA f d) 23))
  have hmx : s.size ≤ 9223372036854775807 := by unfold maxLen at hmax; omega
  obtain ⟨N, rfl⟩ : ∃ N : Nat, n = N := ⟨n.toNat, by omega⟩
  have hN8 : N ≤ 255 := by omega
  clear hmax hn
  go_enter Tryz.func6, Tryz.ntmps6
  go_wp2_with fail
  refine (parse_full2 s _).mono ?_
  rintro e V1 (⟨rfl, hb⟩ | ⟨A, NM, es, ex, na, nc, ba, bc, da, dc, hak, hgp, hok, hnm, hnb, hsz, hs4, rfl, hX, hI, hN, hb⟩)
  · have HB1 := hide (bel (bel HB0.out hb) (bel1 V1 (.cells nil4 28)))
    clear hb
    go_wp2_with fail
    refine (HA.out _).mono ?_
    rintro e V2 ⟨rfl, hb⟩
    have HB2 := hide (bel HB1.out hb)
    clear hb
    go_wp2_with fail
    refine (HA.out _).mono ?_
    rintro e V3 ⟨rfl, hb⟩
    have HB3 := hide (bel HB2.out hb)
    go_wp2_with fail
    go_ret
    exact ⟨rfl, HB3.out⟩
  · have hb2 := bel1 V1 (.cells (tr4 (.slice na es.length nc) (.slice ba es.length bc) (.slice da (szL es + ex.size) dc) (.int .i64 (rootOf es ex))) 28)
    have HB1 := hide (bel (bel HB0.out hb) hb2)
    have HK1 := hide ((HK0.out.below hb).alloc (.cells (tr4 (.slice na es.length nc) (.slice ba es.length bc) (.slice da (szL es + ex.size) dc) (.int .i64 (rootOf es ex))) 28))
    have HT1 := hide (HasC.new V1 28 (tr4 (.slice na es.length nc) (.slice ba es.length bc) (.slice da (szL es + ex.size) dc) (.int .i64 (rootOf es ex))))
    have HX1 := hide (hX.later hb2)
    have HI1 := hide (hI.later hb2)
    have HN1 := hide (hN.later hb2)
    have hnl : es.length ≤ 1024 := by
      have := szL_le es
      omega
    clear hb hb2 hX hI hN HB0 HK0
    by_cases hes : 0 < es.length
    · have hes1 : (0 : Int) < es.length := by omega
      clear hak hgp hok hnm hnb
      generalize es.length = nl at *
      go_wp2_with fail
      refine (HA.out _).mono ?_
      rintro e V2 ⟨rfl, hb⟩
      have HB2 := hide (bel HB1.out hb)
      have x0 := (HT1.out.below hb).cell 0 rfl
      clear hb
      go_wp2_with fail
      refine (HA.out _).mono ?_
      rintro e V3 ⟨rfl, hb⟩
      have HB3 := hide (bel HB2.out hb)
      go_wp2_with fail
      go_ret
      exact ⟨rfl, HB3.out⟩
    obtain ⟨rfl, rfl, hg⟩ := gp_one hgp hnm (by omega)
    by_cases hlen : 900 < (s.size : Int)
    · clear hak hgp hok hnm hnb hg
      go_wp2_with fail
      refine (HA.out _).mono ?_
      rintro e V2 ⟨rfl, hb⟩
      have HB2 := hide (bel HB1.out hb)
      have x0 := (HT1.out.below hb).cell 0 rfl
      clear hb
      go_wp2_with fail
      refine (HA.out _).mono ?_
      rintro e V3 ⟨rfl, hb⟩
      have HB3 := hide (bel HB2.out hb)
      go_wp2_with fail
      go_ret
      exact ⟨rfl, HB3.out⟩
    have hsz' : ex.size ≤ s.size := by have : szL [] = 0 := rfl; omega
    have hbl : (bs s).length = s.size := bs_len s
    obtain ⟨m, hm⟩ : ∃ m : Nat, ((N : Int) % 32) = m := ⟨((N : Int) % 32).toNat, by omega⟩
    have hm32 : m ≤ 31 := by omega
    obtain ⟨k, hk⟩ : ∃ k, ex.size = k + 1 := ⟨ex.size - 1, by have := ex.size_pos; omega⟩
    have hrl : (List.replicate m (45 : UInt8)).length = m := List.length_replicate
    obtain ⟨C1, hC1, r1⟩ := cat (A := sB (List.replicate m 45)) (B := ⟨#[40]⟩) (b := [40]) rfl rfl (by rw [hrl]; simp only [List.length_cons, List.length_nil]; omega)
    obtain ⟨C2, hC2, r2⟩ := cat (A := C1) (B := s) (b := bs s) hC1 (sB_bs s).symm (by rw [List.length_append, hrl, hbl]; simp only [List.length_cons, List.length_nil]; omega)
    obtain ⟨C3, hC3, r3⟩ := cat (A := C2) (B := ⟨#[10, 41]⟩) (b := [10, 41]) hC2 rfl (by rw [List.length_append, List.length_append, hrl, hbl]; simp only [List.length_cons, List.length_nil]; omega)
    have z3 : C3.size ≤ 1024 := by rw [hC3, sB_size]; simp only [List.length_append, hbl, hrl, List.length_cons, List.length_nil]; omega
    have k3 : ak (bs C3) = some (ngK A m) := by rw [hC3, bs_sB]; exact ak_negs hak m
    have O3 := hide fun W => of_ok f d k3 z3 (gp_negs hg m) W
    have c0 : chkP [] [] (ex.flat 0) (rootOf [] ex) = true := dec_gp hok hgp rfl (by omega)
    have hn1 : (ex.flat 0).length = ex.size := E.flat_len ex 0
    obtain ⟨L, hL⟩ : ∃ L, k + m = L := ⟨_, rfl⟩
    have HL := hide hL
    have hn2 : ((negs m ex).flat 0).length = L + 1 := by rw [E.flat_len, negs_size]; omega
    have hokm : ∀ j, (ngK A j).all okT = true := fun j => by
      induction j with
      | zero => simp [ngK, hok, okT]
      | succ j ih => simp only [ngK, List.all_cons, ih, Bool.and_true]; decide
    have c2 : chkP [] [] ((negs m ex).flat 0) (rootOf [] (negs m ex)) = true := dec_gp (hokm m) (gp_negs hg m) rfl (by rw [negs_size]; have : szL [] = 0 := rfl; omega)
    have MS := hide (ms_of (f := f) (d := d) hk c0 c2)
    have R1 := hide fun (W : World) (hb : Below (V1.alloc (.cells (tr4 (.slice na ([] : List E).length nc) (.slice ba ([] : List E).length bc) (.slice da (szL [] + ex.size) dc) (.int .i64 (rootOf [] ex))) 28)).heap.size (V1.alloc (.cells (tr4 (.slice na ([] : List E).length nc) (.slice ba ([] : List E).length bc) (.slice da (szL [] + ex.size) dc) (.int .i64 (rootOf [] ex))) 28)) W) =>
      (ccheck_any f d (root := rootOf [] ex) (HX1.out.later hb) (HI1.out.later hb) (HN1.out.later hb) (nm_short hnb)).mono fun e W' h => CkP.rp (n := k + 1) (er := ckE f d [] [] (ex.flat 0) (rootOf [] ex)) (co := coR (ex.flat 0)) (mx := mxR (dpR [] (ex.flat 0) [])) (S := (spR f d [] (ex.flat 0) []).1) h rfl (hn1.trans hk) rfl rfl (fun _ => rfl)
    have R2 := hide fun (W : World) => (O3.out W).mono fun e W' h => CkP.rp (n := L + 1) (er := ckE f d [] [] ((negs m ex).flat 0) (rootOf [] (negs m ex))) (co := coR ((negs m ex).flat 0)) (mx := mxR (dpR [] ((negs m ex).flat 0) [])) (S := (spR f d [] ((negs m ex).flat 0) []).1) h rfl hn2 rfl rfl (fun _ => rfl)
    have hkb : k + 1 ≤ 1024 := by omega
    have hLb : L ≤ 2048 := by omega
    have HM := hide hm
    clear hL
    clear O3 c0 c2 hn1 hn2 hokm k3 z3 hak hgp hok hnm hnb hg hes hC1 hC2 hC3 hbl hsz hsz' HX1 HI1 HN1 hnl hrl hm
    generalize ckE f d [] [] (ex.flat 0) (rootOf [] ex) = er at *
    generalize coR (ex.flat 0) = co at *
    generalize mxR (dpR [] (ex.flat 0) []) = mx at *
    generalize (spR f d [] (ex.flat 0) []).1 = S at *
    generalize ckE f d [] [] ((negs m ex).flat 0) (rootOf [] (negs m ex)) = er2 at *
    generalize coR ((negs m ex).flat 0) = co2 at *
    generalize mxR (dpR [] ((negs m ex).flat 0) []) = mx2 at *
    generalize (spR f d [] ((negs m ex).flat 0) []).1 = S2 at *
    generalize rootOf [] ex = root at *
    generalize szL [] + ex.size = dl at *
    have hld : decide (900 < (s.size : Int)) = false := by simpa using hlen
    have HLen := hide hlen
    clear hlen
    go_wp2_with fail
    rw [HM.out]
    refine (HA.out _).mono ?_
    rintro e V2 ⟨rfl, hb⟩
    have HC1 := hide (R1.out V2 hb)
    have HB2 := hide (bel HB1.out hb)
    have HK2 := hide (HK1.out.below hb)
    have HT2 := hide (HT1.out.below hb)
    obtain ⟨k0, k1, -, -⟩ := two_of HK2.out
    have x0 := HT2.out.cell 0 rfl
    have x1 := HT2.out.cell 1 rfl
    have x2 := HT2.out.cell 2 rfl
    have x3 := HT2.out.cell 3 rfl
    have hm0 : (0 : Int) ≤ m := by omega
    have hm31 : (m : Int) ≤ 31 := by omega
    clear hb R1 HB1 HK1 HT1
    go_wp2_with fail
    refine HC1.out.mono ?_
    rintro e V3 (⟨he, rfl, hb⟩ | ⟨he, g1, rfl, hG1, hb⟩)
    · have HK3 := hide (HK2.out.below hb)
      obtain ⟨m0, m1, -, -⟩ := two_of HK3.out
      have lk := HK3.out.lt
      have HB3 := hide (bel (bel HB2.out hb) (bel1 V3 (.cells rep0 32)))
      have hne : (er != 0) = true := by simpa using he
      have HBad := hide (MS.out.bad he)
      clear hb HC1 HB2 HK2 HT2 k0 k1 x0 x1 x2 x3
      go_wp2_with fail
      go_loop [12, 13] (fun sv iv => ∃ j : Nat, j ≤ m ∧ iv = .int .i64 j ∧ sv = .string (sB (List.replicate j 45))) (fun _ iv => m - (intOf iv).toNat)
      case atStart => exact ⟨0, Nat.zero_le _, rfl, rfl⟩
      case round =>
        obtain ⟨j, hj, rfl, rfl⟩ := hrel
        by_cases hlt : j < m
        · have hj0 : (0 : Int) ≤ j := by omega
          have hj1 : (j : Int) < m := by omega
          have ha : ∀ W, (Op.stringOp .add (sB (List.replicate j 45)) ⟨#[45]⟩).run Tryz.prog W = .ok (.string (sB (List.replicate (j + 1) 45))) W := fun W => by
            rw [List.replicate_succ']
            exact add_sB _ [45] W (by rw [List.length_replicate]; simp only [List.length_cons, List.length_nil]; omega)
          obtain ⟨nx, hnx'⟩ : ∃ nx, sB (List.replicate (j + 1) 45) = nx := ⟨_, rfl⟩
          rw [hnx'] at ha
          have HNX := hide hnx'
          clear hnx'
          generalize sB (List.replicate j 45) = cu at *
          go_wp2_with fail
          go_round
          case rel => exact ⟨j + 1, by omega, by go_num, by rw [HNX.out]⟩
          case measure => simp [intOf]; omega
        · obtain rfl : j = m := by omega
          go_wp2_with fail
          refine (R2.out _).mono ?_
          rintro e V4 (⟨he2, rfl, hb⟩ | ⟨he2, -⟩)
          · have HB4 := hide (bel (bel HB3.out hb) (bel1 V4 (.cells rep0 32)))
            clear hb
            rcases HBad.out with rfl | ⟨hm1, rfl, rfl⟩
            · go_wp2_with fail
              go_ret
              exact ⟨rfl, HB4.out⟩
            · have hm2 : (0 : Int) < j := by omega
              go_wp2_with fail
              go_ret
              exact ⟨rfl, HB4.out⟩
          · exfalso
            rcases HBad.out with h | ⟨-, -, h⟩
            · exact he (h ▸ he2)
            · rw [h] at he2; cases he2
    · subst he
      obtain ⟨c0', c200⟩ := MS.out.co0 rfl
      obtain ⟨mx1, mx24⟩ := MS.out.mx0 rfl
      obtain ⟨l1, l2, l3, l4⟩ := MS.out.wide rfl
      have HK3 := hide (HK2.out.below hb)
      obtain ⟨m0, m1, -, -⟩ := two_of HK3.out
      have lk := HK3.out.lt
      have HB3 := hide (bel (bel HB2.out hb) (bel1 V3 (.cells #[.slice (some ⟨g1, 0, none⟩) (k + 1) (k + 1), .int .i64 co, .int .i64 mx] 32)))
      have HR3 := hide (HasC.new V3 32 #[.slice (some ⟨g1, 0, none⟩) (k + 1) (k + 1), .int .i64 co, .int .i64 mx])
      have HG3 := hide (hG1.alloc (.cells #[.slice (some ⟨g1, 0, none⟩) (k + 1) (k + 1), .int .i64 co, .int .i64 mx] 32))
      clear hb HC1 HB2 HK2 HT2 k0 k1 x0 x1 x2 x3 hG1
      go_wp2_with fail
      go_loop [12, 13] (fun sv iv => ∃ j : Nat, j ≤ m ∧ iv = .int .i64 j ∧ sv = .string (sB (List.replicate j 45))) (fun _ iv => m - (intOf iv).toNat)
      case atStart => exact ⟨0, Nat.zero_le _, rfl, rfl⟩
      case round =>
        obtain ⟨j, hj, rfl, rfl⟩ := hrel
        by_cases hlt : j < m
        · have hj0 : (0 : Int) ≤ j := by omega
          have hj1 : (j : Int) < m := by omega
          have ha : ∀ W, (Op.stringOp .add (sB (List.replicate j 45)) ⟨#[45]⟩).run Tryz.prog W = .ok (.string (sB (List.replicate (j + 1) 45))) W := fun W => by
            rw [List.replicate_succ']
            exact add_sB _ [45] W (by rw [List.length_replicate]; simp only [List.length_cons, List.length_nil]; omega)
          obtain ⟨nx, hnx'⟩ : ∃ nx, sB (List.replicate (j + 1) 45) = nx := ⟨_, rfl⟩
          rw [hnx'] at ha
          have HNX := hide hnx'
          clear hnx'
          generalize sB (List.replicate j 45) = cu at *
          go_wp2_with fail
          go_round
          case rel => exact ⟨j + 1, by omega, by go_num, by rw [HNX.out]⟩
          case measure => simp [intOf]; omega
        · obtain rfl : j = m := by omega
          go_wp2_with fail
          refine (R2.out _).mono ?_
          rintro e V4 (⟨he2, rfl, hb⟩ | ⟨he2, g2, rfl, hG2, hb⟩)
          · have HB4 := hide (bel (bel (bel HB3.out hb) (bel1 V4 (.cells rep0 32))) (bel1 (V4.alloc (.cells rep0 32)) (.cells (sp2 (S.getD k (0, 0))) 43)))
            have HR4 := hide (HR3.out.below hb)
            have HG4 := hide (HG3.out.below hb)
            obtain ⟨a0, a1, a2, -, -, -⟩ := three_of HR4.out
            have lr := HR4.out.lt
            have lg := HG4.out.lt
            obtain ⟨s0, s1⟩ := spA_get S k (by rw [MS.out.len rfl]; omega)
            have d0 := HG4.out.cell _ s0
            have d1 := HG4.out.cell _ s1
            obtain ⟨⟨lo, hi⟩, hp⟩ : ∃ p, S.getD k (0, 0) = p := ⟨_, rfl⟩
            rw [hp] at d0 d1 l1 l2 l3 l4
            simp only at d0 d1 l1 l2 l3 l4
            have i0 : (0 : Int) ≤ k := by omega
            rw [hp] at HB4
            by_cases hlo : lo = -2147483648
            · subst hlo
              by_cases hj1 : 0 < j
              · have hj2 : (0 : Int) < j := by omega
                obtain rfl := MS.out.over rfl (by rw [hp]) hj1
                clear hb MS hp s0 s1
                go_wp2_with fail
                go_ret
                exact ⟨rfl, HB4.out⟩
              · have HW := hide (show (-2147483648 : Int) ≠ -2147483648 ∨ j = 0 from .inr (by omega))
                have hj3 : decide ((0 : Int) < j) = false := by simp; omega
                have hj4 : decide (0 < j) = false := by simp; omega
                clear hj1
                by_cases hB : 200 < co + (j : Int)
                · obtain rfl := MS.out.dear rfl (by rw [hp]; exact HW.out) hB
                  clear hb MS hp s0 s1 HW
                  go_wp2_with fail
                  go_ret
                  exact ⟨rfl, HB4.out⟩
                · rcases MS.out.deep rfl (by rw [hp]; exact HW.out) (by omega) with ⟨rfl, h24⟩ | h
                  · clear hb MS hp s0 s1 HW
                    go_wp2_with fail
                    go_loop [17, 18] (fun av iv => av = .int .i64 0 ∧ iv = .int .i64 0) (fun _ _ => 0)
                    case atStart => exact ⟨rfl, rfl⟩
                    case round =>
                      obtain ⟨rfl, rfl⟩ := hrel
                      go_wp2_with fail
                      go_ret
                      exact ⟨rfl, HB4.out⟩
                  · exact absurd h he2
            · have hlo1 : (lo == -2147483648) = false := by simpa using hlo
              have HW := hide (show lo ≠ -2147483648 ∨ j = 0 from .inl hlo)
              clear hlo
              by_cases hB : 200 < co + (j : Int)
              · obtain rfl := MS.out.dear rfl (by rw [hp]; exact HW.out) hB
                clear hb MS hp s0 s1 HW
                go_wp2_with fail
                go_ret
                exact ⟨rfl, HB4.out⟩
              · rcases MS.out.deep rfl (by rw [hp]; exact HW.out) (by omega) with ⟨rfl, h24⟩ | h
                · clear hb MS hp s0 s1 HW
                  go_wp2_with fail
                  go_loop [17, 18] (fun av iv => av = .int .i64 0 ∧ iv = .int .i64 0) (fun _ _ => 0)
                  case atStart => exact ⟨rfl, rfl⟩
                  case round =>
                    obtain ⟨rfl, rfl⟩ := hrel
                    go_wp2_with fail
                    go_ret
                    exact ⟨rfl, HB4.out⟩
                · exact absurd h he2
          · subst he2
            have lg2 := hG2.lt
            have HG2 := hide hG2
            have HB4 := hide (bel (bel (bel HB3.out hb) (bel1 V4 (.cells #[.slice (some ⟨g2, 0, none⟩) (L + 1) (L + 1), .int .i64 co2, .int .i64 mx2] 32))) (bel1 (V4.alloc (.cells #[.slice (some ⟨g2, 0, none⟩) (L + 1) (L + 1), .int .i64 co2, .int .i64 mx2] 32)) (.cells (sp2 (S.getD k (0, 0))) 43)))
            have HR4 := hide (HR3.out.below hb)
            have HG4 := hide (HG3.out.below hb)
            obtain ⟨a0, a1, a2, -, -, -⟩ := three_of HR4.out
            have lr := HR4.out.lt
            have lg := HG4.out.lt
            obtain ⟨s0, s1⟩ := spA_get S k (by rw [MS.out.len rfl]; omega)
            have d0 := HG4.out.cell _ s0
            have d1 := HG4.out.cell _ s1
            obtain ⟨⟨lo, hi⟩, hp⟩ : ∃ p, S.getD k (0, 0) = p := ⟨_, rfl⟩
            rw [hp] at d0 d1 l1 l2 l3 l4
            simp only at d0 d1 l1 l2 l3 l4
            have i0 : (0 : Int) ≤ k := by omega
            rw [hp] at HB4
            clear hG2
            by_cases hlo : lo = -2147483648
            · subst hlo
              by_cases hj1 : 0 < j
              · have hj2 : (0 : Int) < j := by omega
                have := MS.out.over rfl (by rw [hp]) hj1
                cases this
              · have HW := hide (show (-2147483648 : Int) ≠ -2147483648 ∨ j = 0 from .inr (by omega))
                have hj3 : decide ((0 : Int) < j) = false := by simp; omega
                have hj4 : decide (0 < j) = false := by simp; omega
                clear hj1
                by_cases hB : 200 < co + (j : Int)
                · have := MS.out.dear rfl (by rw [hp]; exact HW.out) hB
                  cases this
                · obtain ⟨t1, t2, t3, t4, t5⟩ := MS.out.two rfl rfl
                  rw [hp, HL.out] at t5
                  rw [HL.out] at t4
                  subst t1
                  clear MS hp s0 s1 HW hb
                  have HS2 := hide t4
                  have HT5 := hide t5
                  clear t4 t5
                  go_wp2_with fail
                  go_loop [17, 18] (fun av iv => ∃ i : Nat, i ≤ L + 1 ∧ av = .int .i64 i ∧ iv = .int .i64 i) (fun _ iv => L + 1 - (intOf iv).toNat)
                  case atStart => exact ⟨0, Nat.zero_le _, rfl, rfl⟩
                  case round =>
                    obtain ⟨i, hik, rfl, rfl⟩ := hrel
                    by_cases hli : i < L + 1
                    · have hi1 : (i : Int) < (L : Int) + 1 := by omega
                      have hi2 : (0 : Int) ≤ i := by omega
                      go_wp2_with fail
                      go_round
                      case rel => exact ⟨i + 1, by omega, by go_num, by go_num⟩
                      case measure => simp [intOf]; omega
                    · obtain rfl : i = L + 1 := by omega
                      by_cases hpar : j % 2 = 1
                      · have hp1 : ((j : Int) % 2 == 1) = true := by simp; omega
                        rw [show turn j (-2147483648, hi) = (-hi, 2147483648) by unfold turn; simp [hpar]] at HT5
                        obtain ⟨s4, s5⟩ := spA_get S2 L (by rw [HS2.out]; omega)
                        rw [HT5.out] at s4 s5
                        have d4 := HG2.out.cell _ s4
                        have d5 := HG2.out.cell _ s5
                        clear s4 s5
                        go_wp2_with fail
                        have KB := hide (bel HB4.out (bel1 _ (.cells #[.int .i64 (-hi), .int .i64 (2147483648)] 43)))
                        have KR1 := hide (((HR4.out.alloc (.cells #[.slice (some ⟨g2, 0, none⟩) (L + 1) (L + 1), .int .i64 (co + (j : Int)), .int .i64 mx2] 32)).alloc (.cells #[.int .i64 (-2147483648), .int .i64 hi] 43)).alloc (.cells #[.int .i64 (-hi), .int .i64 (2147483648)] 43))
                        have KR2 := hide (((HasC.new V4 32 #[.slice (some ⟨g2, 0, none⟩) (L + 1) (L + 1), .int .i64 (co + (j : Int)), .int .i64 mx2]).alloc (.cells #[.int .i64 (-2147483648), .int .i64 hi] 43)).alloc (.cells #[.int .i64 (-hi), .int .i64 (2147483648)] 43))
                        have KWt := hide (HasC.new ((V4.alloc (.cells #[.slice (some ⟨g2, 0, none⟩) (L + 1) (L + 1), .int .i64 (co + (j : Int)), .int .i64 mx2] 32)).alloc (.cells #[.int .i64 (-2147483648), .int .i64 hi] 43)) 43 #[.int .i64 (-hi), .int .i64 (2147483648)])
                        have KG2 := hide (((HG2.out.alloc (.cells #[.slice (some ⟨g2, 0, none⟩) (L + 1) (L + 1), .int .i64 (co + (j : Int)), .int .i64 mx2] 32)).alloc (.cells #[.int .i64 (-2147483648), .int .i64 hi] 43)).alloc (.cells #[.int .i64 (-hi), .int .i64 (2147483648)] 43))
                        simp only [World.size_alloc] at KWt
                        obtain ⟨W6, hW6⟩ : ∃ W6, (((V4.alloc (.cells #[.slice (some ⟨g2, 0, none⟩) (L + 1) (L + 1), .int .i64 (co + (j : Int)), .int .i64 mx2] 32)).alloc (.cells #[.int .i64 (-2147483648), .int .i64 hi] 43)).alloc (.cells #[.int .i64 (-hi), .int .i64 (2147483648)] 43)) = W6 := ⟨_, rfl⟩
                        rw [hW6] at KB KR1 KR2 KWt KG2 ⊢
                        clear hW6 a0 a1 a2 lr lg lg2 d0 d1 d4 d5 HR4 HG4
                        generalize V4.heap.size + 1 + 1 = q6 at *
                        generalize V4.heap.size = q4 at *
                        generalize V3.heap.size = q3 at *
                        obtain ⟨a0, a1, a2, -, -, -⟩ := three_of KR1.out
                        obtain ⟨b0, b1, b2, -, -, -⟩ := three_of KR2.out
                        obtain ⟨e0, e1, -, -⟩ := two_of KWt.out
                        obtain ⟨s4, s5⟩ := spA_get S2 L (by rw [HS2.out]; omega)
                        rw [HT5.out] at s4 s5
                        have d4 := KG2.out.cell _ s4
                        have d5 := KG2.out.cell _ s5
                        have v1 : IntKind.i64.wrap (co + (j : Int)) = co + (j : Int) := by rw [IntKind.wrap_i64]; omega
                        have v2 : IntKind.i64.wrap (mx + (j : Int)) = mx + (j : Int) := by rw [IntKind.wrap_i64]; omega
                        have v3 : IntKind.i64.wrap ((k : Int) + 1 + (j : Int)) = (L : Int) + 1 := by have := HL.out; rw [IntKind.wrap_i64]; omega
                        have v4 : IntKind.i64.wrap ((L : Int) + 1 - 1) = (L : Int) := by rw [IntKind.wrap_i64]; omega
                        have v5 : IntKind.i64.wrap (L : Int) = (L : Int) := by rw [IntKind.wrap_i64]; omega
                        have v6 : decide (mx ≤ mx2) = true := by simpa using t2
                        have v7 : decide (mx2 ≤ mx + (j : Int)) = true := by simpa using t3
                        have i2 : (0 : Int) ≤ L := by omega
                        clear s4 s5
                        go_quiet (fail)
                        go_wp2_with fail
                        go_ret
                        exact ⟨rfl, bel KB.out (below_drewN _ _)⟩
                      · have hp1 : ((j : Int) % 2 == 1) = false := by simp; omega
                        rw [show turn j (-2147483648, hi) = (-2147483648, hi) by unfold turn; simp [hpar]] at HT5
                        obtain ⟨s4, s5⟩ := spA_get S2 L (by rw [HS2.out]; omega)
                        rw [HT5.out] at s4 s5
                        have d4 := HG2.out.cell _ s4
                        have d5 := HG2.out.cell _ s5
                        clear s4 s5
                        go_wp2_with fail
                        have KB := hide (bel HB4.out (bel1 _ (.cells #[.int .i64 (-2147483648), .int .i64 (hi)] 43)))
                        have KR1 := hide (((HR4.out.alloc (.cells #[.slice (some ⟨g2, 0, none⟩) (L + 1) (L + 1), .int .i64 (co + (j : Int)), .int .i64 mx2] 32)).alloc (.cells #[.int .i64 (-2147483648), .int .i64 hi] 43)).alloc (.cells #[.int .i64 (-2147483648), .int .i64 (hi)] 43))
                        have KR2 := hide (((HasC.new V4 32 #[.slice (some ⟨g2, 0, none⟩) (L + 1) (L + 1), .int .i64 (co + (j : Int)), .int .i64 mx2]).alloc (.cells #[.int .i64 (-2147483648), .int .i64 hi] 43)).alloc (.cells #[.int .i64 (-2147483648), .int .i64 (hi)] 43))
                        have KWt := hide (HasC.new ((V4.alloc (.cells #[.slice (some ⟨g2, 0, none⟩) (L + 1) (L + 1), .int .i64 (co + (j : Int)), .int .i64 mx2] 32)).alloc (.cells #[.int .i64 (-2147483648), .int .i64 hi] 43)) 43 #[.int .i64 (-2147483648), .int .i64 (hi)])
                        have KG2 := hide (((HG2.out.alloc (.cells #[.slice (some ⟨g2, 0, none⟩) (L + 1) (L + 1), .int .i64 (co + (j : Int)), .int .i64 mx2] 32)).alloc (.cells #[.int .i64 (-2147483648), .int .i64 hi] 43)).alloc (.cells #[.int .i64 (-2147483648), .int .i64 (hi)] 43))
                        simp only [World.size_alloc] at KWt
                        obtain ⟨W6, hW6⟩ : ∃ W6, (((V4.alloc (.cells #[.slice (some ⟨g2, 0, none⟩) (L + 1) (L + 1), .int .i64 (co + (j : Int)), .int .i64 mx2] 32)).alloc (.cells #[.int .i64 (-2147483648), .int .i64 hi] 43)).alloc (.cells #[.int .i64 (-2147483648), .int .i64 (hi)] 43)) = W6 := ⟨_, rfl⟩
                        rw [hW6] at KB KR1 KR2 KWt KG2 ⊢
                        clear hW6 a0 a1 a2 lr lg lg2 d0 d1 d4 d5 HR4 HG4
                        generalize V4.heap.size + 1 + 1 = q6 at *
                        generalize V4.heap.size = q4 at *
                        generalize V3.heap.size = q3 at *
                        obtain ⟨a0, a1, a2, -, -, -⟩ := three_of KR1.out
                        obtain ⟨b0, b1, b2, -, -, -⟩ := three_of KR2.out
                        obtain ⟨e0, e1, -, -⟩ := two_of KWt.out
                        obtain ⟨s4, s5⟩ := spA_get S2 L (by rw [HS2.out]; omega)
                        rw [HT5.out] at s4 s5
                        have d4 := KG2.out.cell _ s4
                        have d5 := KG2.out.cell _ s5
                        have v1 : IntKind.i64.wrap (co + (j : Int)) = co + (j : Int) := by rw [IntKind.wrap_i64]; omega
                        have v2 : IntKind.i64.wrap (mx + (j : Int)) = mx + (j : Int) := by rw [IntKind.wrap_i64]; omega
                        have v3 : IntKind.i64.wrap ((k : Int) + 1 + (j : Int)) = (L : Int) + 1 := by have := HL.out; rw [IntKind.wrap_i64]; omega
                        have v4 : IntKind.i64.wrap ((L : Int) + 1 - 1) = (L : Int) := by rw [IntKind.wrap_i64]; omega
                        have v5 : IntKind.i64.wrap (L : Int) = (L : Int) := by rw [IntKind.wrap_i64]; omega
                        have v6 : decide (mx ≤ mx2) = true := by simpa using t2
                        have v7 : decide (mx2 ≤ mx + (j : Int)) = true := by simpa using t3
                        have i2 : (0 : Int) ≤ L := by omega
                        clear s4 s5
                        go_quiet (fail)
                        go_wp2_with fail
                        go_ret
                        exact ⟨rfl, bel KB.out (below_drewN _ _)⟩
            · have hlo1 : (lo == -2147483648) = false := by simpa using hlo
              have HW := hide (show lo ≠ -2147483648 ∨ j = 0 from .inl hlo)
              clear hlo
              by_cases hB : 200 < co + (j : Int)
              · have := MS.out.dear rfl (by rw [hp]; exact HW.out) hB
                cases this
              · obtain ⟨t1, t2, t3, t4, t5⟩ := MS.out.two rfl rfl
                rw [hp, HL.out] at t5
                rw [HL.out] at t4
                subst t1
                clear MS hp s0 s1 HW hb
                have HS2 := hide t4
                have HT5 := hide t5
                clear t4 t5
                go_wp2_with fail
                go_loop [17, 18] (fun av iv => ∃ i : Nat, i ≤ L + 1 ∧ av = .int .i64 i ∧ iv = .int .i64 i) (fun _ iv => L + 1 - (intOf iv).toNat)
                case atStart => exact ⟨0, Nat.zero_le _, rfl, rfl⟩
                case round =>
                  obtain ⟨i, hik, rfl, rfl⟩ := hrel
                  by_cases hli : i < L + 1
                  · have hi1 : (i : Int) < (L : Int) + 1 := by omega
                    have hi2 : (0 : Int) ≤ i := by omega
                    go_wp2_with fail
                    go_round
                    case rel => exact ⟨i + 1, by omega, by go_num, by go_num⟩
                    case measure => simp [intOf]; omega
                  · obtain rfl : i = L + 1 := by omega
                    by_cases hpar : j % 2 = 1
                    · have hp1 : ((j : Int) % 2 == 1) = true := by simp; omega
                      rw [show turn j (lo, hi) = (-hi, -lo) by unfold turn; simp [hpar]] at HT5
                      obtain ⟨s4, s5⟩ := spA_get S2 L (by rw [HS2.out]; omega)
                      rw [HT5.out] at s4 s5
                      have d4 := HG2.out.cell _ s4
                      have d5 := HG2.out.cell _ s5
                      clear s4 s5
                      go_wp2_with fail
                      have KB := hide (bel HB4.out (bel1 _ (.cells #[.int .i64 (-hi), .int .i64 (-lo)] 43)))
                      have KR1 := hide (((HR4.out.alloc (.cells #[.slice (some ⟨g2, 0, none⟩) (L + 1) (L + 1), .int .i64 (co + (j : Int)), .int .i64 mx2] 32)).alloc (.cells #[.int .i64 (lo), .int .i64 hi] 43)).alloc (.cells #[.int .i64 (-hi), .int .i64 (-lo)] 43))
                      have KR2 := hide (((HasC.new V4 32 #[.slice (some ⟨g2, 0, none⟩) (L + 1) (L + 1), .int .i64 (co + (j : Int)), .int .i64 mx2]).alloc (.cells #[.int .i64 (lo), .int .i64 hi] 43)).alloc (.cells #[.int .i64 (-hi), .int .i64 (-lo)] 43))
                      have KWt := hide (HasC.new ((V4.alloc (.cells #[.slice (some ⟨g2, 0, none⟩) (L + 1) (L + 1), .int .i64 (co + (j : Int)), .int .i64 mx2] 32)).alloc (.cells #[.int .i64 (lo), .int .i64 hi] 43)) 43 #[.int .i64 (-hi), .int .i64 (-lo)])
                      have KG2 := hide (((HG2.out.alloc (.cells #[.slice (some ⟨g2, 0, none⟩) (L + 1) (L + 1), .int .i64 (co + (j : Int)), .int .i64 mx2] 32)).alloc (.cells #[.int .i64 (lo), .int .i64 hi] 43)).alloc (.cells #[.int .i64 (-hi), .int .i64 (-lo)] 43))
                      simp only [World.size_alloc] at KWt
                      obtain ⟨W6, hW6⟩ : ∃ W6, (((V4.alloc (.cells #[.slice (some ⟨g2, 0, none⟩) (L + 1) (L + 1), .int .i64 (co + (j : Int)), .int .i64 mx2] 32)).alloc (.cells #[.int .i64 (lo), .int .i64 hi] 43)).alloc (.cells #[.int .i64 (-hi), .int .i64 (-lo)] 43)) = W6 := ⟨_, rfl⟩
                      rw [hW6] at KB KR1 KR2 KWt KG2 ⊢
                      clear hW6 a0 a1 a2 lr lg lg2 d0 d1 d4 d5 HR4 HG4
                      generalize V4.heap.size + 1 + 1 = q6 at *
                      generalize V4.heap.size = q4 at *
                      generalize V3.heap.size = q3 at *
                      obtain ⟨a0, a1, a2, -, -, -⟩ := three_of KR1.out
                      obtain ⟨b0, b1, b2, -, -, -⟩ := three_of KR2.out
                      obtain ⟨e0, e1, -, -⟩ := two_of KWt.out
                      obtain ⟨s4, s5⟩ := spA_get S2 L (by rw [HS2.out]; omega)
                      rw [HT5.out] at s4 s5
                      have d4 := KG2.out.cell _ s4
                      have d5 := KG2.out.cell _ s5
                      have v1 : IntKind.i64.wrap (co + (j : Int)) = co + (j : Int) := by rw [IntKind.wrap_i64]; omega
                      have v2 : IntKind.i64.wrap (mx + (j : Int)) = mx + (j : Int) := by rw [IntKind.wrap_i64]; omega
                      have v3 : IntKind.i64.wrap ((k : Int) + 1 + (j : Int)) = (L : Int) + 1 := by have := HL.out; rw [IntKind.wrap_i64]; omega
                      have v4 : IntKind.i64.wrap ((L : Int) + 1 - 1) = (L : Int) := by rw [IntKind.wrap_i64]; omega
                      have v5 : IntKind.i64.wrap (L : Int) = (L : Int) := by rw [IntKind.wrap_i64]; omega
                      have v6 : decide (mx ≤ mx2) = true := by simpa using t2
                      have v7 : decide (mx2 ≤ mx + (j : Int)) = true := by simpa using t3
                      have i2 : (0 : Int) ≤ L := by omega
                      clear s4 s5
                      go_quiet (fail)
                      go_wp2_with fail
                      go_ret
                      exact ⟨rfl, bel KB.out (below_drewN _ _)⟩
                    · have hp1 : ((j : Int) % 2 == 1) = false := by simp; omega
                      rw [show turn j (lo, hi) = (lo, hi) by unfold turn; simp [hpar]] at HT5
                      obtain ⟨s4, s5⟩ := spA_get S2 L (by rw [HS2.out]; omega)
                      rw [HT5.out] at s4 s5
                      have d4 := HG2.out.cell _ s4
                      have d5 := HG2.out.cell _ s5
                      clear s4 s5
                      go_wp2_with fail
                      have KB := hide (bel HB4.out (bel1 _ (.cells #[.int .i64 (lo), .int .i64 (hi)] 43)))
                      have KR1 := hide (((HR4.out.alloc (.cells #[.slice (some ⟨g2, 0, none⟩) (L + 1) (L + 1), .int .i64 (co + (j : Int)), .int .i64 mx2] 32)).alloc (.cells #[.int .i64 (lo), .int .i64 hi] 43)).alloc (.cells #[.int .i64 (lo), .int .i64 (hi)] 43))
                      have KR2 := hide (((HasC.new V4 32 #[.slice (some ⟨g2, 0, none⟩) (L + 1) (L + 1), .int .i64 (co + (j : Int)), .int .i64 mx2]).alloc (.cells #[.int .i64 (lo), .int .i64 hi] 43)).alloc (.cells #[.int .i64 (lo), .int .i64 (hi)] 43))
                      have KWt := hide (HasC.new ((V4.alloc (.cells #[.slice (some ⟨g2, 0, none⟩) (L + 1) (L + 1), .int .i64 (co + (j : Int)), .int .i64 mx2] 32)).alloc (.cells #[.int .i64 (lo), .int .i64 hi] 43)) 43 #[.int .i64 (lo), .int .i64 (hi)])
                      have KG2 := hide (((HG2.out.alloc (.cells #[.slice (some ⟨g2, 0, none⟩) (L + 1) (L + 1), .int .i64 (co + (j : Int)), .int .i64 mx2] 32)).alloc (.cells #[.int .i64 (lo), .int .i64 hi] 43)).alloc (.cells #[.int .i64 (lo), .int .i64 (hi)] 43))
                      simp only [World.size_alloc] at KWt
                      obtain ⟨W6, hW6⟩ : ∃ W6, (((V4.alloc (.cells #[.slice (some ⟨g2, 0, none⟩) (L + 1) (L + 1), .int .i64 (co + (j : Int)), .int .i64 mx2] 32)).alloc (.cells #[.int .i64 (lo), .int .i64 hi] 43)).alloc (.cells #[.int .i64 (lo), .int .i64 (hi)] 43)) = W6 := ⟨_, rfl⟩
                      rw [hW6] at KB KR1 KR2 KWt KG2 ⊢
                      clear hW6 a0 a1 a2 lr lg lg2 d0 d1 d4 d5 HR4 HG4
                      generalize V4.heap.size + 1 + 1 = q6 at *
                      generalize V4.heap.size = q4 at *
                      generalize V3.heap.size = q3 at *
                      obtain ⟨a0, a1, a2, -, -, -⟩ := three_of KR1.out
                      obtain ⟨b0, b1, b2, -, -, -⟩ := three_of KR2.out
                      obtain ⟨e0, e1, -, -⟩ := two_of KWt.out
                      obtain ⟨s4, s5⟩ := spA_get S2 L (by rw [HS2.out]; omega)
                      rw [HT5.out] at s4 s5
                      have d4 := KG2.out.cell _ s4
                      have d5 := KG2.out.cell _ s5
                      have v1 : IntKind.i64.wrap (co + (j : Int)) = co + (j : Int) := by rw [IntKind.wrap_i64]; omega
                      have v2 : IntKind.i64.wrap (mx + (j : Int)) = mx + (j : Int) := by rw [IntKind.wrap_i64]; omega
                      have v3 : IntKind.i64.wrap ((k : Int) + 1 + (j : Int)) = (L : Int) + 1 := by have := HL.out; rw [IntKind.wrap_i64]; omega
                      have v4 : IntKind.i64.wrap ((L : Int) + 1 - 1) = (L : Int) := by rw [IntKind.wrap_i64]; omega
                      have v5 : IntKind.i64.wrap (L : Int) = (L : Int) := by rw [IntKind.wrap_i64]; omega
                      have v6 : decide (mx ≤ mx2) = true := by simpa using t2
                      have v7 : decide (mx2 ≤ mx + (j : Int)) = true := by simpa using t3
                      have i2 : (0 : Int) ≤ L := by omega
                      clear s4 s5
                      go_quiet (fail)
                      go_wp2_with fail
                      go_ret
                      exact ⟨rfl, bel KB.out (below_drewN _ _)⟩

end Go.Proofs.YtbgmljmpmemfcaaGreat
