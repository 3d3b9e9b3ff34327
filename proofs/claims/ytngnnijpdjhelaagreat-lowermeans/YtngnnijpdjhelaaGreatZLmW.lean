/-
  LowerMeans' walk.
-/
import Derived.Test.YtngnnijpdjhelaaGreatZLoB
import Derived.Test.YtngnnijpdjhelaaGreatZHdA
import Derived.Lib.QuietBelow
import Derived.BigQuiet
namespace Go.Proofs.YtngnnijpdjhelaaGreat
open Go.RowKit Go.IntWalk Lx Pz
set_option linter.unusedVariables false

/-- What Check answers, in one form. -/
theorem check_one (f d : Int) {W : World} {na ba da : Option Addr} {nl nc bl bc dl dc : Nat} {root : Int} {NM : List Txt} {BS : List Int} {NS : List Nd} (hX : Tx W na nl nc NM) (hB : Iz W ba bl bc BS) (hN : Nz W da dl dc NS) (hs : ∀ s ∈ NM, s.length ≤ 9223372036854775807) :
    Calls Tryz.prog 15 #[.agg (kdA f d), .agg (tr4 (.slice na nl nc) (.slice ba bl bc) (.slice da dl dc) (.int .i64 root))] W fun e W' =>
      ∃ ga gl gc co mx, e = .returned (.tuple #[.agg #[.slice ga gl gc, .int .i64 co, .int .i64 mx], .int .i64 (ckE f d NM BS NS root)]) ∧ (ckE f d NM BS NS root = 0 → co = coR NS) ∧ Below W.heap.size W W' := by
  refine (ccheck_any f d hX hB hN hs).mono ?_
  rintro e V (⟨he, rfl, hb⟩ | ⟨he, g, rfl, hg, hG, hb⟩)
  · exact ⟨none, 0, 0, 0, 0, rfl, fun h => absurd h he, hb⟩
  · exact ⟨_, _, _, _, _, by rw [he], fun _ => rfl, hb⟩
/-- What Lower answers, in one form. -/
theorem lower_one (f d : Int) {W : World} {na ba da : Option Addr} {nl nc bl bc dl dc : Nat} {root : Int} {NM : List Txt} {BS : List Int} {NS : List Nd} (hX : Tx W na nl nc NM) (hB : Iz W ba bl bc BS) (hN : Nz W da dl dc NS) (hs : ∀ s ∈ NM, s.length ≤ 9223372036854775807) :
    Calls Tryz.prog 8 #[.agg (kdA f d), .agg (tr4 (.slice na nl nc) (.slice ba bl bc) (.slice da dl dc) (.int .i64 root))] W fun e W' =>
      ∃ F D I o a c, e = .returned (.tuple #[.agg (Cde.cd F D a I.length c o), .int .i64 (ckE f d NM BS NS root)]) ∧ Cde.Ins W' a I.length c I ∧ (ckE f d NM BS NS root ≠ 0 → I = []) ∧
        (ckE f d NM BS NS root = 0 → F = f ∧ D = d ∧ I = (loF f d BS NS).2 ∧ o = (loF f d BS NS).1.getD root.toNat 0) ∧ Below W.heap.size W W' := by
  refine (olower_any f d hX hB hN hs).mono ?_
  intro e V h
  obtain ⟨a, c, rfl, hI, hb⟩ := h.ins
  by_cases h0 : ckE f d NM BS NS root = 0
  · have hv : loV f d NM BS NS root = ⟨0, f, d, (loF f d BS NS).2, (loF f d BS NS).1.getD root.toNat 0⟩ := by unfold loV; rw [if_pos h0]
    rw [hv] at hI ⊢
    rw [h0]
    exact ⟨f, d, _, _, a, c, rfl, hI, fun h => absurd rfl h, fun _ => ⟨rfl, rfl, rfl, rfl⟩, hb⟩
  · have hv : loV f d NM BS NS root = ⟨ckE f d NM BS NS root, 0, 0, [], 0⟩ := by unfold loV; rw [if_neg h0]
    rw [hv] at hI ⊢
    exact ⟨0, 0, [], 0, a, c, rfl, hI, fun _ => rfl, fun h => absurd h h0, hb⟩
/-- The law's boxes. -/
structure Mw (W V : World) (bt br bk : Nat) (kd wd tr rp cd : Array Value) : Prop where
  k : HasC V W.heap.size 23 kd
  w : HasC V (W.heap.size + 1) 45 wd
  t : HasC V bt 28 tr
  r : HasC V br 50 rp
  c : HasC V bk 32 cd
  lo : Below W.heap.size W V
theorem Mw.below {W V V' : World} {bt br bk : Nat} {kd wd tr rp cd : Array Value} (h : Mw W V bt br bk kd wd tr rp cd) (hb : Below V.heap.size V V') : Mw W V' bt br bk kd wd tr rp cd :=
  ⟨h.k.below hb, h.w.below hb, h.t.below hb, h.r.below hb, h.c.below hb, bel h.lo hb⟩
theorem mixedL : Tryz.prog.follows .mixedOrders = true := by kernel_rfl

set_option maxRecDepth 100000 in
set_option maxHeartbeats 8000000 in
theorem means_walk (f d : Int) (s : ByteArray) (v : Wd) (pa : Option Addr) (pl pc : Nat) (W : World) (hP : Knd.Ints W pa pl pc v.ps) :
    Calls Tryz.prog 4 #[.agg (kdA f d), .string s, .agg (wdA v pa pl pc)] W fun e w' => e = .returned (.bool true) ∧ Below W.heap.size W w' := by
  have HA := hide fun V => lawake_any V
  have HP := hide fun V => parse_tree s V
  have hb1 := bel1 W (.cells (kdA f d) 23)
  have HB0 := hide (bel hb1 (bel1 (W.alloc (.cells (kdA f d) 23)) (.cells (wdA v pa pl pc) 45)))
  have HK0 := hide ((HasC.new W 23 (kdA f d)).alloc (.cells (wdA v pa pl pc) 45))
  have HW0 := hide (has_n1 W (.cells (kdA f d) 23) 45 (wdA v pa pl pc))
  have HPI := hide hP
  have HF := hide fun w h => Knd.fits_any f d v.x v.y v.c pa pl pc v.ps w h
  clear hb1 hP
  go_enter Tryz.func4, Tryz.ntmps4
  go_wp2_with fail
  refine (HP.out _).mono ?_
  rintro e V1 ⟨NM, BS, NS, root, na, nl, nc, ba, bl, bc, da, dl, dc, er, rfl, her, hsh, hX, hI, hN, hb⟩
  have HEr := hide her
  have HSh := hide hsh
  have hb2 := bel1 V1 (.cells (tr4 (.slice na nl nc) (.slice ba bl bc) (.slice da dl dc) (.int .i64 root)) 28)
  have HQ0 : Hid (Hq W (V1.alloc (.cells (tr4 (.slice na nl nc) (.slice ba bl bc) (.slice da dl dc) (.int .i64 root)) 28)) V1.heap.size (kdA f d) (wdA v pa pl pc) (tr4 (.slice na nl nc) (.slice ba bl bc) (.slice da dl dc) (.int .i64 root))) :=
    hide ⟨(HK0.out.below hb).below hb2, (HW0.out.below hb).below hb2, HasC.new _ _ _, bel (bel HB0.out hb) hb2⟩
  have HX := hide (hX.later hb2)
  have HI := hide (hI.later hb2)
  have HN := hide (hN.later hb2)
  obtain ⟨k0, k1, -, -⟩ := two_of (HK0.out.below hb)
  have z0 := (HK0.out.below hb).lt
  have HC := hide (check_one f d (root := root) HX.out HI.out HN.out HSh.out)
  clear her hsh hX hI hN hb hb2 HP HK0 HW0 HB0
  obtain ⟨ce, hce⟩ : ∃ ce, ckE f d NM BS NS root = ce := ⟨_, rfl⟩
  rw [hce] at HC
  go_wp2_with fail
  refine HC.out.mono ?_
  rintro e V3 ⟨ga, gl, gc, co, mx, rfl, hco, hb⟩
  have hb2 := bel1 V3 (.cells #[.slice ga gl gc, .int .i64 co, .int .i64 mx] 50)
  have HQ1 := hide (HQ0.out.below hb)
  have HQ2 := hide (HQ1.out.below hb2)
  have HRp := hide (HasC.new V3 50 #[.slice ga gl gc, .int .i64 co, .int .i64 mx])
  have HCo := hide hco
  have HX3 := hide ((HX.out.later hb).later hb2)
  have HI3 := hide ((HI.out.later hb).later hb2)
  have HN3 := hide ((HN.out.later hb).later hb2)
  have HLw := hide (lower_one f d (root := root) HX3.out HI3.out HN3.out HSh.out)
  rw [hce] at HLw
  clear hco HX HI HN hb hb2 HQ0 HC k0 k1 z0
  obtain ⟨k0, k1, -, -⟩ := two_of HQ1.out.k
  obtain ⟨t0, t1, t2, t3⟩ := four_of HQ1.out.t
  have z0 := HQ1.out.k.lt
  have z2 := HQ1.out.t.lt
  have HCe := hide hce
  clear hce
  go_wp2_with fail
  refine HLw.out.mono ?_
  rintro e V4 ⟨F, D, I, o, ca, cc, rfl, hIn, hI0, hI1, hb⟩
  have hb2 := bel1 V4 (.cells (Cde.cd F D ca I.length cc o) 32)
  have HM0 : Hid (Mw W (V4.alloc (.cells (Cde.cd F D ca I.length cc o) 32)) V1.heap.size V3.heap.size V4.heap.size (kdA f d) (wdA v pa pl pc) (tr4 (.slice na nl nc) (.slice ba bl bc) (.slice da dl dc) (.int .i64 root)) #[.slice ga gl gc, .int .i64 co, .int .i64 mx] (Cde.cd F D ca I.length cc o)) :=
    hide ⟨(HQ2.out.k.below hb).below hb2, (HQ2.out.w.below hb).below hb2, (HQ2.out.t.below hb).below hb2, (HRp.out.below hb).below hb2, HasC.new _ _ _, bel (bel HQ2.out.lo hb) hb2⟩
  have HIn := hide (hIn.later hb2)
  have HI0 := hide hI0
  have HI1 := hide hI1
  have HX4 := hide ((HX3.out.later hb).later hb2)
  have HI4 := hide ((HI3.out.later hb).later hb2)
  have HN4 := hide ((HN3.out.later hb).later hb2)
  clear hIn hI0 hI1 hb hb2 HQ1 HQ2 HRp HX3 HI3 HN3 HLw k0 k1 t0 t1 t2 t3 z0 z2
  go_wp2_with fail
  refine (HA.out _).mono ?_
  rintro e V5 ⟨rfl, hb⟩
  have HM5 := hide (HM0.out.below hb)
  have HIn5 := hide (HIn.out.later hb)
  have HX5 := hide (HX4.out.later hb)
  have HI5 := hide (HI4.out.later hb)
  have HN5 := hide (HN4.out.later hb)
  clear hb HM0 HIn HX4 HI4 HN4
  generalize V1.heap.size = bt at *
  generalize V3.heap.size = br at *
  generalize V4.heap.size = bk at *
  by_cases h1 : ce = 0
  · subst h1
    have h0 : er = 0 := Classical.byContradiction fun h => by
      have h2 := ck_sound HCe.out
      rw [HEr.out h] at h2
      cases h2
    subst h0
    obtain ⟨rfl, rfl, hIl, hol⟩ := HI1.out rfl
    have hmc := lo_may HCe.out
    have hlw := lw_all HCe.out
    rw [← hIl] at hmc hlw
    rw [← hol] at hmc
    have hco := HCo.out rfl
    have hcl : Cde.coL I = co := by rw [hlw.co, hco]
    have hle : (I.length : Int) ≤ co := by have := hlw.le; omega
    obtain ⟨-, m1, m2, m3, m4, -⟩ := Cde.mc_parts hmc
    have hcE : Cde.ccE F D I o = 0 := by unfold Cde.ccE; rw [if_pos hmc]
    have HCk := hide fun (w : World) (h : Cde.Ins w ca I.length cc I) => Cde.ccheck_any F D o h
    rw [hcE] at HCk
    have HCs := hide fun (w : World) (h : Cde.Ins w ca I.length cc I) => Cde.ccost_any F D o h (by omega)
    rw [hcl] at HCs
    have hrun := Cde.kd_run F D F D
    rw [show (decide (F = F) && decide (D = D)) = true by simp] at hrun
    have HMc := hide hmc
    have HIl := hide hIl
    have HOl := hide hol
    have HM4 := hide (show 1 ≤ I.length ∧ I.length ≤ 200 ∧ 0 ≤ o ∧ o < I.length from ⟨m1, m2, m3, m4⟩)
    clear hcl hcE hlw hco hmc hIl hol m1 m2 m3 m4
    obtain ⟨k0, k1, -, -⟩ := two_of HM5.out.k
    obtain ⟨c0, c1, c2, c3⟩ := four_of HM5.out.c
    have r1 := HM5.out.r.cell 1 rfl
    have hle2 : decide (co < (I.length : Int)) = false := by simpa using hle
    clear hle
    go_wp2_with fail
    have y0 := cell_regrown k0
    have y1 := cell_regrown k1
    have y2 := cell_regrown c0
    have y3 := cell_regrown c1
    have y4 := cell_regrown c2
    have y5 := cell_regrown c3
    have y6 := cell_regrown r1
    refine wp_region_quiet_below mixedL (by kernel_rfl) ?_
    repeat (go_big_quiet_step (fail))
    go_big_quiet_step ((go_at_call 16; exact Calls.regrown_of (HCk.out _ (HIn5.out.later (below_regrown _ _ _)))))
    repeat (go_big_quiet_step (fail))
    go_big_quiet_step ((go_at_call 17; exact Calls.regrown_of (HCs.out _ (HIn5.out.later (below_regrown _ _ _)))))
    repeat (go_big_quiet_step (fail))
    refine wpQuiet_nil ?_
    intro V6 hw'
    obtain ⟨⟨dq, osq⟩, hw''⟩ := hw'
    have hb := below_regrown V5 dq osq
    simp only at hw''
    rw [← hw''] at hb
    clear hw'' y0 y1 y2 y3 y4 y5 y6 k0 k1 c0 c1 c2 c3 r1 HCk HCs hrun
    have HM6 := hide (HM5.out.below hb)
    have HIn6 := hide (HIn5.out.later hb)
    have HEv := hide (veval_any F D v (root := root) (HX5.out.later hb) (HI5.out.later hb) (HN5.out.later hb) HSh.out (HPI.out.later HM6.out.lo))
    clear hb HM5 HIn5 HX5 HI5 HN5
    obtain ⟨k0, k1, -, -⟩ := two_of HM6.out.k
    obtain ⟨w0, w1, w2, w3⟩ := four_of HM6.out.w
    obtain ⟨t0, t1, t2, t3⟩ := four_of HM6.out.t
    obtain ⟨er, hev⟩ : ∃ er, evE F D v NM BS NS root = er := ⟨_, rfl⟩
    obtain ⟨x, hx⟩ : ∃ x, evV F D v NM BS NS root = x := ⟨_, rfl⟩
    rw [hev, hx] at HEv
    have HE1 := hide hev
    have HX1 := hide hx
    clear hev hx
    go_wp2_with fail
    refine HEv.out.mono ?_
    rintro e V7 ⟨rfl, hb⟩
    have HM7 := hide (HM6.out.below hb)
    have HVs := hide (Cde.cvalues_any F D o v (HIn6.out.later hb) (HPI.out.later HM7.out.lo))
    clear hb HM6 HIn6 HEv k0 k1 w0 w1 w2 w3 t0 t1 t2 t3
    obtain ⟨c0, c1, c2, c3⟩ := four_of HM7.out.c
    obtain ⟨w0, w1, w2, w3⟩ := four_of HM7.out.w
    obtain ⟨Z, hZ⟩ : ∃ Z, Cde.vaZ F D v I o = Z := ⟨_, rfl⟩
    rw [hZ] at HVs
    have HZ1 := hide hZ
    clear hZ
    go_wp2_with fail
    refine HVs.out.mono ?_
    rintro e V8 ⟨la, lc, rfl, hO, hb⟩
    have HM8 := hide (HM7.out.below hb)
    have HLs := hide (Cde.tw_ints hO)
    clear hb hO HM7 HVs c0 c1 c2 c3 w0 w1 w2 w3
    obtain ⟨k0, k1, -, -⟩ := two_of HM8.out.k
    obtain ⟨w0, w1, w2, w3⟩ := four_of HM8.out.w
    go_wp2_with fail
    refine (HF.out _ (HPI.out.later HM8.out.lo)).mono ?_
    rintro e V9 ⟨rfl, hb⟩
    have HM9 := hide (HM8.out.below hb)
    have HL9 := hide (HLs.out.later hb)
    clear hb k0 k1 w0 w1 w2 w3 HM8 HLs HF
    rcases fitE_cases F D v with ⟨hF, hf⟩ | ⟨hF, hf⟩
    · rw [hf]
      obtain ⟨X, hX⟩ := lv_all HCe.out hF
      rw [← HIl.out] at hX
      have hz : Z = (0, X) := by rw [← HZ1.out]; unfold Cde.vaZ; rw [if_pos HMc.out, if_pos hF]; exact hX.run
      subst hz
      have her : er = 0 := by rw [← HE1.out]; exact evE_zero.2 ⟨HCe.out, hF⟩
      subst her
      have hrt := sound_root (ck_sound HCe.out)
      have hxv : x = X.getD o.toNat 0 := by
        rw [← HX1.out]
        unfold evV
        rw [if_pos HE1.out, hX.val root.toNat (by rw [(lw_all HCe.out).len]; exact hrt.2.1), HOl.out]
      obtain ⟨m1, m2, m3, m4⟩ := HM4.out
      obtain ⟨q, rfl⟩ : ∃ q : Nat, o = q := ⟨o.toNat, by omega⟩
      simp only [Int.toNat_natCast] at hxv
      have hxl := hX.len
      obtain ⟨lb, lo, rfl, -, hat⟩ := HL9.out.at (show X.length ≠ 0 by omega)
      have l0 := hat q (show q < X.length by omega)
      rw [← hxv] at l0
      have c3 := HM9.out.c.cell 3 rfl
      dsimp only at *
      have i0 : (0 : Int) ≤ q := by omega
      have i1 : (q : Int) < X.length := by omega
      clear hat hxv hrt hX hf hF HMc HIl HOl HM4 HZ1 HX1 HE1 HL9 m1 m2 m3 m4 hle2 HI0 hxl HI1 HCo HEr
      go_wp2_with fail
      go_ret
      exact ⟨rfl, HM9.out.lo⟩
    · rw [hf]
      have hz : Z = (1, []) := by rw [← HZ1.out]; unfold Cde.vaZ; rw [if_pos HMc.out, if_neg hF]
      subst hz
      have her : er = 1 := by rw [← HE1.out]; unfold evE; rw [if_pos HCe.out, hf]
      subst her
      clear hf hF HMc HIl HOl HM4 HZ1 HX1 HE1 HL9 hle2 HI0 HI1 HCo HEr
      dsimp only at *
      go_wp2_with fail
      go_ret
      exact ⟨rfl, HM9.out.lo⟩
  · have hr1 : (ce != 0) = true := by simpa using h1
    obtain rfl := HI0.out h1
    clear h1
    by_cases h0 : er = 0
    · have hr : (er != 0) = false := by simpa using h0
      clear h0
      go_wp2_with fail
      refine (HA.out _).mono ?_
      rintro e V7 ⟨rfl, hb7⟩
      have HM7 := hide (HM5.out.below hb7)
      obtain ⟨c0, c1, c2, c3⟩ := four_of HM7.out.c
      clear hb7
      go_wp2_with fail
      go_ret
      exact ⟨rfl, HM7.out.lo⟩
    · have hr : (er != 0) = true := by simpa using h0
      clear h0
      go_wp2_with fail
      refine (HA.out _).mono ?_
      rintro e V7 ⟨rfl, hb7⟩
      have HM7 := hide (HM5.out.below hb7)
      obtain ⟨c0, c1, c2, c3⟩ := four_of HM7.out.c
      clear hb7
      go_wp2_with fail
      go_ret
      exact ⟨rfl, HM7.out.lo⟩

end Go.Proofs.YtngnnijpdjhelaaGreat
