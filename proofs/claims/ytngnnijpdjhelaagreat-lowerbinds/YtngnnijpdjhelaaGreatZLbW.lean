/-
  LowerBinds' walk.
-/
import Derived.Test.YtngnnijpdjhelaaGreatZLb
namespace Go.Proofs.YtngnnijpdjhelaaGreat
open Go.RowKit Go.IntWalk Lx Pz
set_option linter.unusedVariables false

theorem same_self (Z : LoV) : Cde.sameB Z.f Z.d Z.o Z.I Z.f Z.d Z.o Z.I = true := by simp [Cde.sameB]
/-- The law's boxes. -/
structure Bw (W V : World) (bt bu bk bm : Nat) (kd tr ur cd ce : Array Value) : Prop where
  k : HasC V W.heap.size 23 kd
  t : HasC V bt 28 tr
  u : HasC V bu 28 ur
  c : HasC V bk 32 cd
  e : HasC V bm 32 ce
  lo : Below W.heap.size W V
theorem Bw.below {W V V' : World} {bt bu bk bm : Nat} {kd tr ur cd ce : Array Value} (h : Bw W V bt bu bk bm kd tr ur cd ce) (hb : Below V.heap.size V V') : Bw W V' bt bu bk bm kd tr ur cd ce :=
  ⟨h.k.below hb, h.t.below hb, h.u.below hb, h.c.below hb, h.e.below hb, bel h.lo hb⟩

set_option maxRecDepth 100000 in
set_option maxHeartbeats 16000000 in
theorem lbinds_walk (f d : Int) (s : ByteArray) (w : World) (hmax : s.size ≤ maxLen) : Calls Tryz.prog 6 #[.agg (kdA f d), .string s] w fun e w' => e = .returned (.bool true) ∧ Below w.heap.size w w' := by
  have HA := hide lawake_any
  have HK0 := hide (HasC.new w 23 (kdA f d))
  have HB0 := hide (bel1 w (.cells (kdA f d) 23))
  have hmx : s.size ≤ 9223372036854775807 := by unfold maxLen at hmax; omega
  clear hmax
  go_enter Tryz.func6, Tryz.ntmps6
  go_wp2_with fail
  refine (parse_full2 s _).mono ?_
  rintro e V1 (⟨rfl, hb⟩ | ⟨A, NM, es, ex, na, nc, ba, bc, da, dc, hak, hgp, hok, hnm, hnb, hsz, hs4, rfl, hX, hI, hN, hb⟩)
  · have HB1 := hide (bel (bel HB0.out hb) (bel1 V1 (.cells nil4 28)))
    clear hb
    go_wp2_with fail
    refine (HA.out _).mono ?_
    rintro e V2 ⟨rfl, hb⟩
    have HB2 := hide (bel HB1.out hb)
    clear hb
    go_wp2_with fail
    refine (HA.out _).mono ?_
    rintro e V3 ⟨rfl, hb⟩
    have HB3 := hide (bel HB2.out hb)
    go_wp2_with fail
    go_ret
    exact ⟨rfl, HB3.out⟩
  · have hb2 := bel1 V1 (.cells (tr4 (.slice na es.length nc) (.slice ba es.length bc) (.slice da (szL es + ex.size) dc) (.int .i64 (rootOf es ex))) 28)
    have HB1 := hide (bel (bel HB0.out hb) hb2)
    have HK1 := hide ((HK0.out.below hb).alloc (.cells (tr4 (.slice na es.length nc) (.slice ba es.length bc) (.slice da (szL es + ex.size) dc) (.int .i64 (rootOf es ex))) 28))
    have HT1 := hide (HasC.new V1 28 (tr4 (.slice na es.length nc) (.slice ba es.length bc) (.slice da (szL es + ex.size) dc) (.int .i64 (rootOf es ex))))
    have HX1 := hide (hX.later hb2)
    have HI1 := hide (hI.later hb2)
    have HN1 := hide (hN.later hb2)
    have hnl : es.length ≤ 1024 := by
      have := szL_le es
      omega
    clear hb hb2 hX hI hN HB0 HK0
    by_cases hes : 0 < es.length
    · have hes1 : (0 : Int) < es.length := by omega
      clear hak hgp hok hnm hnb
      generalize es.length = nl at *
      go_wp2_with fail
      refine (HA.out _).mono ?_
      rintro e V2 ⟨rfl, hb⟩
      have HB2 := hide (bel HB1.out hb)
      have x0 := (HT1.out.below hb).cell 0 rfl
      clear hb
      go_wp2_with fail
      refine (HA.out _).mono ?_
      rintro e V3 ⟨rfl, hb⟩
      have HB3 := hide (bel HB2.out hb)
      go_wp2_with fail
      go_ret
      exact ⟨rfl, HB3.out⟩
    obtain ⟨rfl, rfl, hg⟩ := gp_one hgp hnm (by omega)
    by_cases hlen : 1000 < (s.size : Int)
    · clear hak hgp hok hnm hnb hg
      go_wp2_with fail
      refine (HA.out _).mono ?_
      rintro e V2 ⟨rfl, hb⟩
      have HB2 := hide (bel HB1.out hb)
      have x0 := (HT1.out.below hb).cell 0 rfl
      clear hb
      go_wp2_with fail
      refine (HA.out _).mono ?_
      rintro e V3 ⟨rfl, hb⟩
      have HB3 := hide (bel HB2.out hb)
      go_wp2_with fail
      go_ret
      exact ⟨rfl, HB3.out⟩
    have hsz' : ex.size ≤ s.size := by have : szL [] = 0 := rfl; omega
    have hbl : (bs s).length = s.size := bs_len s
    obtain ⟨C1, hC1, r1⟩ := cat (A := ⟨#[108, 101, 116, 32, 122, 61]⟩) (B := s) (a := [108, 101, 116, 32, 122, 61]) (b := bs s) rfl (sB_bs s).symm (by rw [hbl]; simp only [List.length_cons, List.length_nil]; omega)
    obtain ⟨C2, hC2, r2⟩ := cat (A := C1) (B := ⟨#[10, 59, 108, 101, 116, 32, 122, 122, 61, 122, 59, 122, 122]⟩) (b := [10, 59, 108, 101, 116, 32, 122, 122, 61, 122, 59, 122, 122]) hC1 rfl (by rw [List.length_append, hbl]; simp only [List.length_cons, List.length_nil]; omega)
    have z2 : C2.size ≤ 1024 := by rw [hC2, sB_size]; simp only [List.length_append, hbl, List.length_cons, List.length_nil]; omega
    have k2 : ak (bs C2) = some (.word wLet :: .word wZ :: .eq :: (A ++ .semi :: bdK)) := by rw [hC2, bs_sB]; exact ak_let hak hg bd_ak
    have HP2 := hide fun W => parse_dec k2 z2 (gp_two hg) W
    have c0 : chkP [] [] (ex.flat 0) (rootOf [] ex) = true := dec_gp hok hgp rfl (by omega)
    have hn1 : (ex.flat 0).length = ex.size := E.flat_len ex 0
    have htwo : szL [ex, .leaf use0] + (E.leaf use1).size = ex.size + 2 := by simp [szL, E.size]
    have c2 := dec_gp (NM := [wZ, wZZ]) (es := [ex, .leaf use0]) (ex := .leaf use1) (by simp [hok, okT, bdK, show wrd wLet = true from by decide, show wrd wZ = true from by decide, show wrd wZZ = true from by decide]) (gp_two hg) rfl (by rw [htwo]; omega)
    rw [bd_two, nodes_two] at c2
    rw [bd_two, nodes_two] at HP2
    obtain ⟨u1, u2⟩ := binds_lo (f := f) (d := d) c0 c2 (by simp [szL]) (by rw [rootOf, htwo]; omega)
    have HO1 := hide fun (W : World) (hb : Below (V1.alloc (.cells (tr4 (.slice na ([] : List E).length nc) (.slice ba ([] : List E).length bc) (.slice da (szL [] + ex.size) dc) (.int .i64 (rootOf [] ex))) 28)).heap.size (V1.alloc (.cells (tr4 (.slice na ([] : List E).length nc) (.slice ba ([] : List E).length bc) (.slice da (szL [] + ex.size) dc) (.int .i64 (rootOf [] ex))) 28)) W) =>
      olower_any f d (root := rootOf [] ex) (HX1.out.later hb) (HI1.out.later hb) (HN1.out.later hb) (nm_short hnb)
    have HO2 := hide fun (W : World) na nl nc ba bl bc da dl dc (hX : Tx W na nl nc [wZ, wZZ]) hI hN => olower_any f d (na := na) (nl := nl) (nc := nc) (ba := ba) (bl := bl) (bc := bc) (da := da) (dl := dl) (dc := dc) (root := rootOf [ex, .leaf use0] (.leaf use1)) (BS := [(ex.size : Int) - 1, (ex.size : Int)]) (NS := (ex.flat 0 ++ [use0]) ++ [use1]) hX hI hN (by intro s hs; simp at hs; rcases hs with rfl | rfl <;> decide)
    rw [u1] at HO2
    have hzl : szL [] + ex.size = ex.size := by simp [szL]
    have HZl : Hid ((loV f d [] [] (ex.flat 0) (rootOf [] ex)).er = 0 → (loV f d [] [] (ex.flat 0) (rootOf [] ex)).I.length = ex.size) := hide fun h => by
      refine (u2 ?_).trans hn1
      apply Classical.byContradiction
      intro hne
      unfold loV at h
      rw [if_neg hne] at h
      exact hne h
    rw [show nodesOf [] ex = ex.flat 0 by simp [nodesOf, flL, szL], show bdL [] 0 = [] from rfl] at HO1
    clear u1 u2 c0 c2 hn1 htwo k2 z2 hak hgp hok hnm hnb hg hes hC1 hC2 hbl hsz hsz' HX1 HI1 HN1 hnl
    generalize loV f d [] [] (ex.flat 0) (rootOf [] ex) = Z at *
    have HSm := hide fun (W : World) (a b : Option Addr) (c k : Nat) (h1 : Cde.Ins W a Z.I.length c Z.I) (h2 : Cde.Ins W b Z.I.length k Z.I) => Cde.csame_any Z.f Z.d Z.o Z.f Z.d Z.o h1 h2
    rw [same_self] at HSm
    have hld : decide (1000 < (s.size : Int)) = false := by simpa using hlen
    have HLen := hide hlen
    clear hlen
    rw [hzl] at HO1 HB1 HK1 HT1 ⊢
    clear hzl
    go_wp2_with fail
    refine (HA.out _).mono ?_
    rintro e V2 ⟨rfl, hb⟩
    have HL1 := hide (fun W h => HO1.out W (bel hb h))
    have HB2 := hide (bel HB1.out hb)
    have HK2 := hide (HK1.out.below hb)
    have HT2 := hide (HT1.out.below hb)
    obtain ⟨k0, k1, -, -⟩ := two_of HK2.out
    obtain ⟨x0, x1, x2, x3⟩ := four_of HT2.out
    clear hb HO1 HB1 HK1 HT1
    go_wp2_with fail
    refine (HP2.out _).mono ?_
    rintro e V3 ⟨ma, mc, pa, pc, qa, qc, hD, rfl, hX, hI, hN, hb⟩
    obtain ⟨r3, hr3⟩ : ∃ r3, rootOf [ex, .leaf use0] (.leaf use1) = r3 := ⟨_, rfl⟩
    obtain ⟨dl3, hd3⟩ : ∃ dl3, szL [ex, .leaf use0] + (E.leaf use1).size = dl3 := ⟨_, rfl⟩
    rw [hr3] at HO2 ⊢
    rw [hd3] at hN ⊢
    clear hr3 hd3 hD HP2
    simp only [List.length_cons, List.length_nil] at hX hI ⊢
    have hb3 := bel1 V3 (.cells (tr4 (.slice ma (0 + 1 + 1) mc) (.slice pa (0 + 1 + 1) pc) (.slice qa dl3 qc) (.int .i64 r3)) 28)
    have HK3 := hide ((HK2.out.below hb).below hb3)
    have HT3 := hide ((HT2.out.below hb).below hb3)
    have HU3 := hide (HasC.new V3 28 (tr4 (.slice ma (0 + 1 + 1) mc) (.slice pa (0 + 1 + 1) pc) (.slice qa dl3 qc) (.int .i64 r3)))
    have HB3 := hide (bel (bel HB2.out hb) hb3)
    have HX3 := hide (hX.later hb3)
    have HI3 := hide (hI.later hb3)
    have HN3 := hide (hN.later hb3)
    have HL3 := hide (HL1.out _ (bel hb hb3))
    obtain ⟨k0, k1, -, -⟩ := two_of (HK2.out.below hb)
    obtain ⟨x0, x1, x2, x3⟩ := four_of (HT2.out.below hb)
    have zk := (HK2.out.below hb).lt
    have zt := (HT2.out.below hb).lt
    clear hX hI hN hb hb3 HK2 HT2 HB2 HL1
    generalize V1.heap.size = bt at *
    generalize rootOf [] ex = root at *
    go_wp2_with fail
    refine HL3.out.mono ?_
    intro e V4 hl
    obtain ⟨ca, cc, rfl, hIn, hb⟩ := hl.ins
    have hb4 := bel1 V4 (.cells (Cde.cd Z.f Z.d ca Z.I.length cc Z.o) 32)
    have HK4 := hide ((HK3.out.below hb).below hb4)
    have HT4 := hide ((HT3.out.below hb).below hb4)
    have HU4 := hide ((HU3.out.below hb).below hb4)
    have HC4 := hide (HasC.new V4 32 (Cde.cd Z.f Z.d ca Z.I.length cc Z.o))
    have HB4 := hide (bel (bel HB3.out hb) hb4)
    have HIn4 := hide (hIn.later hb4)
    have HL4 := hide (HO2.out _ _ _ _ _ _ _ _ _ _ ((HX3.out.later hb).later hb4) ((HI3.out.later hb).later hb4) ((HN3.out.later hb).later hb4))
    clear k0 k1 x0 x1 x2 x3 zk zt
    obtain ⟨k0, k1, -, -⟩ := two_of (HK3.out.below hb)
    obtain ⟨x0, x1, x2, x3⟩ := four_of (HU3.out.below hb)
    have zk := (HK3.out.below hb).lt
    have zt := (HU3.out.below hb).lt
    clear hIn hl hb hb4 HK3 HT3 HU3 HB3 HX3 HI3 HN3 HL3 HO2
    generalize V3.heap.size = bu at *
    go_wp2_with fail
    refine HL4.out.mono ?_
    intro e V5 hl
    obtain ⟨ea, ec, rfl, hIn, hb⟩ := hl.ins
    have hb5 := bel1 V5 (.cells (Cde.cd Z.f Z.d ea Z.I.length ec Z.o) 32)
    have HW5 : Hid (Bw w (V5.alloc (.cells (Cde.cd Z.f Z.d ea Z.I.length ec Z.o) 32)) bt bu V4.heap.size V5.heap.size (kdA f d) (tr4 (.slice na ([] : List E).length nc) (.slice ba ([] : List E).length bc) (.slice da ex.size dc) (.int .i64 root)) (tr4 (.slice ma (0 + 1 + 1) mc) (.slice pa (0 + 1 + 1) pc) (.slice qa dl3 qc) (.int .i64 r3)) (Cde.cd Z.f Z.d ca Z.I.length cc Z.o) (Cde.cd Z.f Z.d ea Z.I.length ec Z.o)) :=
      hide ⟨(HK4.out.below hb).below hb5, (HT4.out.below hb).below hb5, (HU4.out.below hb).below hb5, (HC4.out.below hb).below hb5, HasC.new _ _ _, bel (bel HB4.out hb) hb5⟩
    have HS5 := hide (HSm.out _ _ _ _ _ ((HIn4.out.later hb).later hb5) (hIn.later hb5))
    obtain ⟨c0, c1, c2, c3⟩ := four_of (HC4.out.below hb)
    have zc := (HC4.out.below hb).lt
    clear k0 k1 x0 x1 x2 x3 zk zt hIn hl hb hb5 HK4 HT4 HU4 HC4 HB4 HIn4 HL4 HSm
    obtain ⟨er, her⟩ : ∃ er, Z.er = er := ⟨_, rfl⟩
    rw [her] at HZl ⊢
    clear her
    generalize V4.heap.size = bk at *
    go_wp2_with fail
    refine HS5.out.mono ?_
    rintro e V6 ⟨rfl, hb⟩
    have HW6 := hide (HW5.out.below hb)
    obtain ⟨m0, m1, m2, m3⟩ := four_of HW6.out.c
    obtain ⟨n0, n1, n2, n3⟩ := four_of HW6.out.t
    clear hb HW5 HS5 c0 c1 c2 c3 zc
    by_cases he : er = 0
    · have hz := HZl.out he
      have h1 : (er != 0) = false := by simpa using he
      rw [hz] at m2
      clear hz he
      go_wp2_with fail
      go_ret
      exact ⟨rfl, HW6.out.lo⟩
    · have h1 : (er != 0) = true := by simpa using he
      clear he
      go_wp2_with fail
      go_ret
      exact ⟨rfl, HW6.out.lo⟩

end Go.Proofs.YtngnnijpdjhelaaGreat
