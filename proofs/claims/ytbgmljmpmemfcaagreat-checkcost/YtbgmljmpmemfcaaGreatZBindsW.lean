/-
  The walk of CheckBinds.
-/
import Derived.Test.YtbgmljmpmemfcaaGreatZT2
import Derived.Deep.QuietTactic
import Derived.BigQuiet
namespace Go.Proofs.YtbgmljmpmemfcaaGreat
open Go.RowKit Go.IntWalk Lx Pz
set_option linter.unusedVariables false

/-- A report in memory: its error, its spans, its cost and depth. -/
def RpP (w : World) (er : Int) (n : Nat) (co mx : Int) (S : Sps) (e : Ending) (W' : World) : Prop :=
  (er ≠ 0 ∧ e = .returned (.tuple #[.agg rep0, .int .i64 er]) ∧ Below w.heap.size w W') ∨
  (er = 0 ∧ ∃ g, e = .returned (.tuple #[.agg #[.slice (some ⟨g, 0, none⟩) n n, .int .i64 co, .int .i64 mx], .int .i64 0]) ∧ HasC W' g 43 (spA S) ∧ Below w.heap.size w W')
theorem CkP.rp {w : World} {f d : Int} {NM : List Txt} {BS : List Int} {NS : List Nd} {root er co mx : Int} {n : Nat} {S : Sps} {e : Ending} {W' : World} (h : CkP w f d NM BS NS root e W') (h1 : ckE f d NM BS NS root = er) (h2 : NS.length = n) (h3 : coR NS = co) (h4 : mxR (dpR BS NS []) = mx) (h5 : er = 0 → (spR f d BS NS []).1 = S) : RpP w er n co mx S e W' := by
  rcases h with ⟨a, b, c⟩ | ⟨a, g, b, -, c, d⟩
  · rw [h1] at a b
    exact .inl ⟨a, b, c⟩
  · rw [h2, h3, h4] at b
    rw [h5 (h1 ▸ a)] at c
    exact .inr ⟨h1 ▸ a, g, b, c, d⟩
theorem lasts {S : Sps} {k : Nat} (h : S.length = k + 1) (p : Int × Int) : (S ++ [p]).getD (k + 1) (0, 0) = p := by
  rw [List.getD_eq_getElem?_getD, List.getElem?_append_right (by omega), h]; simp

set_option maxRecDepth 100000 in
set_option maxHeartbeats 16000000 in
theorem binds_walk (f d : Int) (s : ByteArray) (w : World) (hmax : s.size ≤ maxLen) : Calls Tryz.prog 5 #[.agg (kdA f d), .string s] w fun e w' => e = .returned (.bool true) ∧ Below w.heap.size w w' := by
  have HA := hide awake_any
  have HK0 := hide (HasC.new w 23 (kdA f d))
  have HB0 := hide (bel1 w (.cells (kdA f d) 23))
  have hmx : s.size ≤ 9223372036854775807 := by unfold maxLen at hmax; omega
  clear hmax
  go_enter Tryz.func5, Tryz.ntmps5
  go_wp2_with fail
  refine (parse_full2 s _).mono ?_
  rintro e V1 (⟨rfl, hb⟩ | ⟨A, NM, es, ex, na, nc, ba, bc, da, dc, hak, hgp, hok, hnm, hnb, hsz, hs4, rfl, hX, hI, hN, hb⟩)
  · have HB1 := hide (bel (bel HB0.out hb) (bel1 V1 (.cells nil4 28)))
    clear hb
    go_wp2_with fail
    refine (HA.out _).mono ?_
    rintro e V2 ⟨rfl, hb⟩
    have HB2 := hide (bel HB1.out hb)
    clear hb
    go_wp2_with fail
    refine (HA.out _).mono ?_
    rintro e V3 ⟨rfl, hb⟩
    have HB3 := hide (bel HB2.out hb)
    go_wp2_with fail
    go_ret
    exact ⟨rfl, HB3.out⟩
  · have hb2 := bel1 V1 (.cells (tr4 (.slice na es.length nc) (.slice ba es.length bc) (.slice da (szL es + ex.size) dc) (.int .i64 (rootOf es ex))) 28)
    have HB1 := hide (bel (bel HB0.out hb) hb2)
    have HK1 := hide ((HK0.out.below hb).alloc (.cells (tr4 (.slice na es.length nc) (.slice ba es.length bc) (.slice da (szL es + ex.size) dc) (.int .i64 (rootOf es ex))) 28))
    have HT1 := hide (HasC.new V1 28 (tr4 (.slice na es.length nc) (.slice ba es.length bc) (.slice da (szL es + ex.size) dc) (.int .i64 (rootOf es ex))))
    have HX1 := hide (hX.later hb2)
    have HI1 := hide (hI.later hb2)
    have HN1 := hide (hN.later hb2)
    have hnl : es.length ≤ 1024 := by
      have := szL_le es
      omega
    clear hb hb2 hX hI hN HB0 HK0
    by_cases hes : 0 < es.length
    · have hes1 : (0 : Int) < es.length := by omega
      clear hak hgp hok hnm hnb
      generalize es.length = nl at *
      go_wp2_with fail
      refine (HA.out _).mono ?_
      rintro e V2 ⟨rfl, hb⟩
      have HB2 := hide (bel HB1.out hb)
      have x0 := (HT1.out.below hb).cell 0 rfl
      clear hb
      go_wp2_with fail
      refine (HA.out _).mono ?_
      rintro e V3 ⟨rfl, hb⟩
      have HB3 := hide (bel HB2.out hb)
      go_wp2_with fail
      go_ret
      exact ⟨rfl, HB3.out⟩
    obtain ⟨rfl, rfl, hg⟩ := gp_one hgp hnm (by omega)
    by_cases hlen : 1000 < (s.size : Int)
    · clear hak hgp hok hnm hnb hg
      go_wp2_with fail
      refine (HA.out _).mono ?_
      rintro e V2 ⟨rfl, hb⟩
      have HB2 := hide (bel HB1.out hb)
      have x0 := (HT1.out.below hb).cell 0 rfl
      clear hb
      go_wp2_with fail
      refine (HA.out _).mono ?_
      rintro e V3 ⟨rfl, hb⟩
      have HB3 := hide (bel HB2.out hb)
      go_wp2_with fail
      go_ret
      exact ⟨rfl, HB3.out⟩
    have hsz' : ex.size ≤ s.size := by have : szL [] = 0 := rfl; omega
    have hbl : (bs s).length = s.size := bs_len s
    obtain ⟨C1, hC1, r1⟩ := cat (A := ⟨#[108, 101, 116, 32, 122, 61]⟩) (B := s) (a := [108, 101, 116, 32, 122, 61]) (b := bs s) rfl (sB_bs s).symm (by rw [hbl]; simp only [List.length_cons, List.length_nil]; omega)
    obtain ⟨C2, hC2, r2⟩ := cat (A := C1) (B := ⟨#[10, 59, 122]⟩) (b := [10, 59, 122]) hC1 rfl (by rw [List.length_append, hbl]; simp only [List.length_cons, List.length_nil]; omega)
    obtain ⟨C3, hC3, r3⟩ := cat (A := C1) (B := ⟨#[10, 59, 55]⟩) (b := [10, 59, 55]) hC1 rfl (by rw [List.length_append, hbl]; simp only [List.length_cons, List.length_nil]; omega)
    have z2 : C2.size ≤ 1024 := by rw [hC2, sB_size]; simp only [List.length_append, hbl, List.length_cons, List.length_nil]; omega
    have z3 : C3.size ≤ 1024 := by rw [hC3, sB_size]; simp only [List.length_append, hbl, List.length_cons, List.length_nil]; omega
    have k2 : ak (bs C2) = some (.word wLet :: .word wZ :: .eq :: (A ++ .semi :: [.word wZ])) := by rw [hC2, bs_sB]; exact ak_let hak hg ak_z
    have k3 : ak (bs C3) = some (.word wLet :: .word wZ :: .eq :: (A ++ .semi :: [.num 7])) := by rw [hC3, bs_sB]; exact ak_let hak hg ak_7
    have O2 := hide fun W => of_ok f d k2 z2 (gp_use hg) W
    have O3 := hide fun W => of_ok f d k3 z3 (gp_seven hg) W
    have c0 : chkP [] [] (ex.flat 0) (rootOf [] ex) = true := dec_gp hok hgp rfl (by omega)
    have hn1 : (ex.flat 0).length = ex.size := E.flat_len ex 0
    have hone : szL [ex] + (E.leaf use0).size = ex.size + 1 := by simp [szL, E.size]
    have c2 := dec_gp (NM := [wZ]) (es := [ex]) (ex := .leaf use0) (by simp [hok, okT, show wrd wLet = true from by decide, show wrd wZ = true from by decide]) (gp_use hg) rfl (by rw [hone]; omega)
    have c3 := dec_gp (NM := [wZ]) (es := [ex]) (ex := .leaf num7) (by simp [hok, okT, show wrd wLet = true from by decide, show wrd wZ = true from by decide]) (gp_seven hg) rfl (by rw [show szL [ex] + (E.leaf num7).size = ex.size + 1 by simp [szL, E.size]]; omega)
    rw [bd_one, nodes_one] at c2 c3
    rw [bd_one, nodes_one] at O2 O3
    obtain ⟨u1, u2, u3, u4⟩ := binds_use (f := f) (d := d) c0 c2
    obtain ⟨k, hk⟩ : ∃ k, ex.size = k + 1 := ⟨ex.size - 1, by have := ex.size_pos; omega⟩
    have hk2 : (ex.flat 0 ++ [use0]).length = k + 1 + 1 := by rw [List.length_append, hn1, hk]; rfl
    have hk3 : (ex.flat 0 ++ [num7]).length = k + 1 + 1 := by rw [List.length_append, hn1, hk]; rfl
    have R1 := hide fun (W : World) (hb : Below (V1.alloc (.cells (tr4 (.slice na ([] : List E).length nc) (.slice ba ([] : List E).length bc) (.slice da (szL [] + ex.size) dc) (.int .i64 (rootOf [] ex))) 28)).heap.size (V1.alloc (.cells (tr4 (.slice na ([] : List E).length nc) (.slice ba ([] : List E).length bc) (.slice da (szL [] + ex.size) dc) (.int .i64 (rootOf [] ex))) 28)) W) =>
      (ccheck_any f d (root := rootOf [] ex) (HX1.out.later hb) (HI1.out.later hb) (HN1.out.later hb) (nm_short hnb)).mono fun e W' h => CkP.rp (n := k + 1) (er := ckE f d [] [] (ex.flat 0) (rootOf [] ex)) (co := coR (ex.flat 0)) (mx := mxR (dpR [] (ex.flat 0) [])) (S := (spR f d [] (ex.flat 0) []).1) h rfl (hn1.trans hk) rfl rfl (fun _ => rfl)
    have R2 := hide fun (W : World) => (O2.out W).mono fun e W' h => CkP.rp (n := k + 1 + 1) h u1 hk2 u2 u3 (fun h0 => u4 (ck_zero.1 h0).2.2.2.1)
    have R3 := hide fun (h0 : ckE f d [] [] (ex.flat 0) (rootOf [] ex) = 0) (W : World) => (O3.out W).mono fun e W' h => CkP.rp (n := k + 1 + 1) h (binds_num c0 c3 h0).1 hk3 (binds_num c0 c3 h0).2.1 (binds_num c0 c3 h0).2.2.1 (fun _ => (binds_num c0 c3 h0).2.2.2)
    have HF := hide fun (h0 : ckE f d [] [] (ex.flat 0) (rootOf [] ex) = 0) => (show (spR f d [] (ex.flat 0) []).1.length = k + 1 ∧ 0 ≤ coR (ex.flat 0) ∧ coR (ex.flat 0) ≤ 200 from
      ⟨by have := spR_len (Prod.ext rfl (ck_zero.1 h0).2.2.2.1 : spR f d [] (ex.flat 0) [] = ((spR f d [] (ex.flat 0) []).1, 0)); rw [this, hn1, hk]; simp, (coR_in _).1, (ck_zero.1 h0).2.2.2.2.1⟩)
    rw [show ex.size - 1 = k by omega] at R2
    have hkb : k + 1 ≤ 1024 := by omega
    clear u1 u2 u3 u4 O2 O3 c0 c2 c3 hn1 hone hk2 hk3 k2 k3 z2 z3 hak hgp hok hnm hnb hg hes hC1 hC2 hC3 hbl hsz hsz' HX1 HI1 HN1 hnl
    generalize ckE f d [] [] (ex.flat 0) (rootOf [] ex) = er at *
    generalize coR (ex.flat 0) = co at *
    generalize mxR (dpR [] (ex.flat 0) []) = mx at *
    generalize (spR f d [] (ex.flat 0) []).1 = S at *
    generalize rootOf [] ex = root at *
    generalize szL [] + ex.size = dl at *
    have hld : decide (1000 < (s.size : Int)) = false := by simpa using hlen
    have HLen := hide hlen
    clear hlen
    go_wp2_with fail
    refine (HA.out _).mono ?_
    rintro e V2 ⟨rfl, hb⟩
    have HC1 := hide (R1.out V2 hb)
    have HB2 := hide (bel HB1.out hb)
    have HK2 := hide (HK1.out.below hb)
    have HT2 := hide (HT1.out.below hb)
    obtain ⟨k0, k1, -, -⟩ := two_of HK2.out
    have x0 := HT2.out.cell 0 rfl
    have x1 := HT2.out.cell 1 rfl
    have x2 := HT2.out.cell 2 rfl
    have x3 := HT2.out.cell 3 rfl
    clear hb R1 HB1 HK1 HT1
    go_wp2_with fail
    refine HC1.out.mono ?_
    rintro e V3 (⟨he, rfl, hb⟩ | ⟨he, g1, rfl, hG1, hb⟩)
    · have HK3 := hide (HK2.out.below hb)
      obtain ⟨m0, m1, -, -⟩ := two_of HK3.out
      have lk := HK3.out.lt
      have HB3 := hide (bel (bel HB2.out hb) (bel1 V3 (.cells rep0 32)))
      have HR3 := hide (HasC.new V3 32 rep0)
      have hne : (er != 0) = true := by simpa using he
      clear hb HC1 HB2 HK2 HT2 k0 k1 x0 x1 x2 x3
      go_wp2_with fail
      refine (R2.out _).mono ?_
      rintro e V4 (⟨he2, rfl, hb⟩ | ⟨he2, -⟩)
      · obtain ⟨r0, r1', r2', -, -, -⟩ := three_of (HR3.out.below hb)
        have lr := (HR3.out.below hb).lt
        have HB4 := hide (bel (bel HB3.out hb) (bel1 V4 (.cells rep0 32)))
        have hee : (er != er) = false := by simp
        clear hb he2
        go_wp2_with fail
        go_ret
        exact ⟨rfl, HB4.out⟩
      · exact absurd he2 he
    · subst he
      obtain ⟨hSl, hc0, hc2⟩ := HF.out rfl
      have HK3 := hide (HK2.out.below hb)
      obtain ⟨m0, m1, -, -⟩ := two_of HK3.out
      have lk := HK3.out.lt
      have HB3 := hide (bel (bel HB2.out hb) (bel1 V3 (.cells #[.slice (some ⟨g1, 0, none⟩) (k + 1) (k + 1), .int .i64 co, .int .i64 mx] 32)))
      have HR3 := hide (HasC.new V3 32 #[.slice (some ⟨g1, 0, none⟩) (k + 1) (k + 1), .int .i64 co, .int .i64 mx])
      have HG3 := hide (hG1.alloc (.cells #[.slice (some ⟨g1, 0, none⟩) (k + 1) (k + 1), .int .i64 co, .int .i64 mx] 32))
      have HK3a := hide (HK3.out.alloc (.cells #[.slice (some ⟨g1, 0, none⟩) (k + 1) (k + 1), .int .i64 co, .int .i64 mx] 32))
      have HSl := hide hSl
      clear hb HC1 HB2 HK2 HT2 k0 k1 x0 x1 x2 x3 hG1 hSl
      go_wp2_with fail
      refine (R2.out _).mono ?_
      rintro e V4 (⟨he2, -⟩ | ⟨-, g2, rfl, hG2, hb⟩)
      · exact absurd rfl he2
      · have HR4 := hide (HR3.out.below hb)
        have HG4 := hide (HG3.out.below hb)
        have HK4 := hide (HK3a.out.below hb)
        obtain ⟨r0, r1', r2', -, -, -⟩ := three_of HR4.out
        obtain ⟨n0', n1', -, -⟩ := two_of HK4.out
        have lr := HR4.out.lt
        have lk4 := HK4.out.lt
        have lg := HG4.out.lt
        have lg2 := hG2.lt
        have HB4 := hide (bel (bel HB3.out hb) (bel1 V4 (.cells #[.slice (some ⟨g2, 0, none⟩) (k + 1 + 1) (k + 1 + 1), .int .i64 co, .int .i64 mx] 32)))
        obtain ⟨s0, s1⟩ := spA_get S k (by rw [HSl.out]; omega)
        have d0 := HG4.out.cell _ s0
        have d1 := HG4.out.cell _ s1
        obtain ⟨s2, s3⟩ := spA_get (S ++ [S.getD k (0, 0)]) (k + 1) (by rw [List.length_append, HSl.out]; simp)
        rw [lasts HSl.out] at s2 s3
        have d2 := hG2.cell _ s2
        have d3 := hG2.cell _ s3
        have hcc : (co != co) = false := by simp
        have hmm : (mx != mx) = false := by simp
        generalize S.getD k (0, 0) = lp at *
        obtain ⟨lx, ly⟩ := lp
        simp only at d0 d1 d2 d3
        clear hb s0 s1 s2 s3 hG2 R2 HG3 HR3 HK3 HK3a m0 m1 lk
        go_wp2_with fail
        have KR1 := hide (HR4.out.alloc (.cells #[.slice (some ⟨g2, 0, none⟩) (k + 1 + 1) (k + 1 + 1), .int .i64 co, .int .i64 mx] 32))
        have KK := hide (HK4.out.alloc (.cells #[.slice (some ⟨g2, 0, none⟩) (k + 1 + 1) (k + 1 + 1), .int .i64 co, .int .i64 mx] 32))
        have KR2 := hide (HasC.new V4 32 #[.slice (some ⟨g2, 0, none⟩) (k + 1 + 1) (k + 1 + 1), .int .i64 co, .int .i64 mx])
        have D0 := (Spn.cell_old (o := .cells #[.slice (some ⟨g2, 0, none⟩) (k + 1 + 1) (k + 1 + 1), .int .i64 co, .int .i64 mx] 32) (i := k * 2) lg).trans d0
        have D1 := (Spn.cell_old (o := .cells #[.slice (some ⟨g2, 0, none⟩) (k + 1 + 1) (k + 1 + 1), .int .i64 co, .int .i64 mx] 32) (i := k * 2 + 1) lg).trans d1
        have D2 := (Spn.cell_old (o := .cells #[.slice (some ⟨g2, 0, none⟩) (k + 1 + 1) (k + 1 + 1), .int .i64 co, .int .i64 mx] 32) (i := (k + 1) * 2) lg2).trans d2
        have D3 := (Spn.cell_old (o := .cells #[.slice (some ⟨g2, 0, none⟩) (k + 1 + 1) (k + 1 + 1), .int .i64 co, .int .i64 mx] 32) (i := (k + 1) * 2 + 1) lg2).trans d3
        obtain ⟨W5, hW5⟩ : ∃ W5, V4.alloc (.cells #[.slice (some ⟨g2, 0, none⟩) (k + 1 + 1) (k + 1 + 1), .int .i64 co, .int .i64 mx] 32) = W5 := ⟨_, rfl⟩
        rw [hW5] at KR1 KR2 KK HB4 D0 D1 D2 D3 ⊢
        have lq1 := KR1.out.lt
        have lq2 := KR2.out.lt
        have lqk := KK.out.lt
        clear hW5 r0 r1' r2' n0' n1' lr lk4 lg lg2 d0 d1 d2 d3 HR4 HK4 HG4
        generalize V4.heap.size = q4 at *
        generalize V3.heap.size = q3 at *
        obtain ⟨r0, r1', r2', -, -, -⟩ := three_of KR1.out
        obtain ⟨t0, t1', t2', -, -, -⟩ := three_of KR2.out
        obtain ⟨n0', n1', -, -⟩ := two_of KK.out
        have i0 : (0 : Int) ≤ k := by omega
        have w1 : IntKind.i64.wrap ((k : Int) + 1 + 1) = (k : Int) + 1 + 1 := by rw [IntKind.wrap_i64]; omega
        have w2 : IntKind.i64.wrap ((k : Int) + 1 - 1) = (k : Int) := by rw [IntKind.wrap_i64]; omega
        have w3 : IntKind.i64.wrap (k : Int) = (k : Int) := by rw [IntKind.wrap_i64]; omega
        have w4 : ((k : Int) + 1 == 0) = false := by simp; omega
        have R3' := hide (R3.out trivial)
        clear R3
        go_quiet (fail)
        go_wp2_with fail
        have hbd := below_drewN W5 nq
        refine (R3'.out _).mono ?_
        rintro e V6 h6
        by_cases h200 : co = 200
        · subst h200
          rw [if_pos rfl] at h6
          rcases h6 with ⟨-, rfl, hb⟩ | ⟨h0, -⟩
          · have hb6 := bel hbd hb
            have r1'' := (KR1.out.below hb6).cell 1 rfl
            have lr6 := (KR1.out.below hb6).lt
            have HB6 := hide (bel (bel HB4.out hb6) (bel1 V6 (.cells rep0 32)))
            clear hb hb6 hbd r0 r1' r2' t0 t1' t2' n0' n1' D0 D1 D2 D3
            go_wp2_with fail
            go_ret
            exact ⟨rfl, HB6.out⟩
          · cases h0
        · have h200' : (co == 200) = false := by simpa using h200
          rw [if_neg h200] at h6
          rcases h6 with ⟨h0, -⟩ | ⟨-, g3, rfl, hG3, hb⟩
          · exact absurd rfl h0
          · have hb6 := bel hbd hb
            obtain ⟨y0, y1, y2, -, -, -⟩ := three_of (KR1.out.below hb6)
            have lr6 := (KR1.out.below hb6).lt
            have lg3 := hG3.lt
            obtain ⟨s4, s5⟩ := spA_get (S ++ [(7, 7)]) (k + 1) (by rw [List.length_append, HSl.out]; simp)
            rw [lasts HSl.out] at s4 s5
            have d4 := hG3.cell _ s4
            have d5 := hG3.cell _ s5
            have HB6 := hide (bel (bel HB4.out hb6) (bel1 V6 (.cells #[.slice (some ⟨g3, 0, none⟩) (k + 1 + 1) (k + 1 + 1), .int .i64 (co + 1), .int .i64 mx] 32)))
            clear hb hb6 hbd r0 r1' r2' t0 t1' t2' n0' n1' D0 D1 D2 D3 s4 s5 hG3
            go_wp2_with fail
            go_ret
            exact ⟨rfl, HB6.out⟩

end Go.Proofs.YtbgmljmpmemfcaaGreat
