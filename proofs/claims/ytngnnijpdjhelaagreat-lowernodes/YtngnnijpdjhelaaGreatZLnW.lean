/-
  LowerNodes' walk.
-/
import Derived.Test.YtngnnijpdjhelaaGreatZLmW
namespace Go.Proofs.YtngnnijpdjhelaaGreat
open Go.RowKit Go.IntWalk Lx Pz
set_option linter.unusedVariables false

theorem cn_take {NS : List Nd} {k : Nat} (h : k < NS.length) : cn (NS.take (k + 1)) = if (NS.getD k n0).op = 4 then cn (NS.take k) else cn (NS.take k) + 1 := by
  rw [take_snoc n0 h, cn_snoc]
/-- Node by node: what the law's loop looks at. -/
theorem nodes_at {f d : Int} {v : Wd} {NM : List Txt} {BS : List Int} {NS : List Nd} {root : Int} {X : List Int} (h : ckE f d NM BS NS root = 0) (hX : Lv f d v (vaR f d v BS NS []) (loF f d BS NS).1 (loF f d BS NS).2 X) {k : Nat} (hk : k < NS.length) (h4 : (NS.getD k n0).op ≠ 4) :
    cn (NS.take k) < (loF f d BS NS).2.length ∧ cn (NS.take k) < X.length ∧ X.getD (cn (NS.take k)) 0 = (vaR f d v BS NS []).getD k 0 ∧ ((loF f d BS NS).2.getD (cn (NS.take k)) Cde.i0).op = (NS.getD k n0).op := by
  have hw := lw_all h
  obtain ⟨a, b, c⟩ := hw.own k hk h4
  refine ⟨c, by rw [hX.len]; exact c, ?_, b⟩
  rw [hX.val k (by rw [hw.len]; exact hk), a, Int.toNat_natCast]
theorem nodes_end {f d : Int} {v : Wd} {NM : List Txt} {BS : List Int} {NS : List Nd} {root : Int} {X : List Int} (h : ckE f d NM BS NS root = 0) (hX : Lv f d v (vaR f d v BS NS []) (loF f d BS NS).1 (loF f d BS NS).2 X) :
    cn NS = (loF f d BS NS).2.length ∧ X.length = (loF f d BS NS).2.length := ⟨(lw_all h).cnt.symm, hX.len⟩
/-- What All answers, in one form. -/
theorem all_one (f d : Int) (v : Wd) {W : World} {na ba da pa : Option Addr} {nl nc bl bc dl dc pl pc : Nat} {root : Int} {NM : List Txt} {BS : List Int} {NS : List Nd} (hX : Tx W na nl nc NM) (hB : Iz W ba bl bc BS) (hN : Nz W da dl dc NS) (hs : ∀ s ∈ NM, s.length ≤ 9223372036854775807) (hP : Knd.Ints W pa pl pc v.ps) (h : evE f d v NM BS NS root = 0) :
    Calls Tryz.prog 21 #[.agg (kdA f d), .agg (tr4 (.slice na nl nc) (.slice ba bl bc) (.slice da dl dc) (.int .i64 root)), .agg (wdA v pa pl pc)] W fun e W' => ∃ g, e = .returned (.tuple #[.slice (some ⟨g, 0, none⟩) dl dl, .int .i64 0]) ∧ HasC W' g 3 (inA (vaR f d v BS NS [])) ∧ Below W.heap.size W W' := by
  refine (vall_any f d v hX hB hN hs hP).mono ?_
  rintro e V (⟨he, -⟩ | ⟨-, g, rfl, -, hG, hb⟩)
  · exact absurd h he
  · exact ⟨g, by rw [hN.len], hG, hb⟩
/-- The law's boxes. -/
structure Nw (W V : World) (bt bk : Nat) (kd wd tr cd : Array Value) : Prop where
  k : HasC V W.heap.size 23 kd
  w : HasC V (W.heap.size + 1) 45 wd
  t : HasC V bt 28 tr
  c : HasC V bk 32 cd
  lo : Below W.heap.size W V
theorem Nw.below {W V V' : World} {bt bk : Nat} {kd wd tr cd : Array Value} (h : Nw W V bt bk kd wd tr cd) (hb : Below V.heap.size V V') : Nw W V' bt bk kd wd tr cd :=
  ⟨h.k.below hb, h.w.below hb, h.t.below hb, h.c.below hb, bel h.lo hb⟩

set_option maxRecDepth 100000 in
set_option maxHeartbeats 8000000 in
theorem nodes_walk (f d : Int) (s : ByteArray) (v : Wd) (pa : Option Addr) (pl pc : Nat) (W : World) (hP : Knd.Ints W pa pl pc v.ps) :
    Calls Tryz.prog 5 #[.agg (kdA f d), .string s, .agg (wdA v pa pl pc)] W fun e w' => e = .returned (.bool true) ∧ Below W.heap.size W w' := by
  have HA := hide fun V => lawake_any V
  have HP := hide fun V => parse_tree s V
  have hb1 := bel1 W (.cells (kdA f d) 23)
  have HB0 := hide (bel hb1 (bel1 (W.alloc (.cells (kdA f d) 23)) (.cells (wdA v pa pl pc) 45)))
  have HK0 := hide ((HasC.new W 23 (kdA f d)).alloc (.cells (wdA v pa pl pc) 45))
  have HW0 := hide (has_n1 W (.cells (kdA f d) 23) 45 (wdA v pa pl pc))
  have HPI := hide hP
  have HF := hide fun w h => Knd.fits_any f d v.x v.y v.c pa pl pc v.ps w h
  clear hb1 hP
  go_enter Tryz.func5, Tryz.ntmps5
  go_wp2_with fail
  refine (HP.out _).mono ?_
  rintro e V1 ⟨NM, BS, NS, root, na, nl, nc, ba, bl, bc, da, dl, dc, er, rfl, her, hsh, hX, hI, hN, hb⟩
  have HEr := hide her
  have HSh := hide hsh
  have HLn := hide hN.len
  have hb2 := bel1 V1 (.cells (tr4 (.slice na nl nc) (.slice ba bl bc) (.slice da dl dc) (.int .i64 root)) 28)
  have HQ0 : Hid (Hq W (V1.alloc (.cells (tr4 (.slice na nl nc) (.slice ba bl bc) (.slice da dl dc) (.int .i64 root)) 28)) V1.heap.size (kdA f d) (wdA v pa pl pc) (tr4 (.slice na nl nc) (.slice ba bl bc) (.slice da dl dc) (.int .i64 root))) :=
    hide ⟨(HK0.out.below hb).below hb2, (HW0.out.below hb).below hb2, HasC.new _ _ _, bel (bel HB0.out hb) hb2⟩
  have HX := hide (hX.later hb2)
  have HI := hide (hI.later hb2)
  have HN := hide (hN.later hb2)
  obtain ⟨k0, k1, -, -⟩ := two_of (HK0.out.below hb)
  have z0 := (HK0.out.below hb).lt
  have HLw := hide (lower_one f d (root := root) HX.out HI.out HN.out HSh.out)
  clear her hsh hX hI hN hb hb2 HP HK0 HW0 HB0
  obtain ⟨ce, hce⟩ : ∃ ce, ckE f d NM BS NS root = ce := ⟨_, rfl⟩
  rw [hce] at HLw
  have HCe := hide hce
  clear hce
  go_wp2_with fail
  refine HLw.out.mono ?_
  rintro e V4 ⟨F, D, I, o, ca, cc, rfl, hIn, hI0, hI1, hb⟩
  have hb2 := bel1 V4 (.cells (Cde.cd F D ca I.length cc o) 32)
  have HM0 : Hid (Nw W (V4.alloc (.cells (Cde.cd F D ca I.length cc o) 32)) V1.heap.size V4.heap.size (kdA f d) (wdA v pa pl pc) (tr4 (.slice na nl nc) (.slice ba bl bc) (.slice da dl dc) (.int .i64 root)) (Cde.cd F D ca I.length cc o)) :=
    hide ⟨(HQ0.out.k.below hb).below hb2, (HQ0.out.w.below hb).below hb2, (HQ0.out.t.below hb).below hb2, HasC.new _ _ _, bel (bel HQ0.out.lo hb) hb2⟩
  have HIn := hide (hIn.later hb2)
  have HI1 := hide hI1
  have HX4 := hide ((HX.out.later hb).later hb2)
  have HI4 := hide ((HI.out.later hb).later hb2)
  have HN4 := hide ((HN.out.later hb).later hb2)
  clear hIn hI0 hI1 hb hb2 HQ0 HX HI HN HLw k0 k1 z0
  go_wp2_with fail
  refine (HA.out _).mono ?_
  rintro e V5 ⟨rfl, hb⟩
  have HM5 := hide (HM0.out.below hb)
  have HIn5 := hide (HIn.out.later hb)
  have HX5 := hide (HX4.out.later hb)
  have HI5 := hide (HI4.out.later hb)
  have HN5 := hide (HN4.out.later hb)
  clear hb HM0 HIn HX4 HI4 HN4
  generalize V1.heap.size = bt at *
  generalize V4.heap.size = bk at *
  by_cases h0 : er = 0
  · have hr : (er != 0) = false := by simpa using h0
    clear h0
    by_cases h1 : ce = 0
    · subst h1
      obtain ⟨rfl, rfl, hIl, hol⟩ := HI1.out rfl
      have HIl := hide hIl
      have HOl := hide hol
      clear hIl hol HI1
      obtain ⟨k0, k1, -, -⟩ := two_of HM5.out.k
      obtain ⟨w0, w1, w2, w3⟩ := four_of HM5.out.w
      go_wp2_with fail
      refine (HF.out _ (HPI.out.later HM5.out.lo)).mono ?_
      rintro e V6 ⟨rfl, hb⟩
      have HM6 := hide (HM5.out.below hb)
      have HIn6 := hide (HIn5.out.later hb)
      have HX6 := hide (HX5.out.later hb)
      have HI6 := hide (HI5.out.later hb)
      have HN6 := hide (HN5.out.later hb)
      clear hb k0 k1 w0 w1 w2 w3 HM5 HIn5 HX5 HI5 HN5 HF
      rcases fitE_cases F D v with ⟨hF, hf⟩ | ⟨hF, hf⟩
      · rw [hf]
        obtain ⟨X, hX⟩ := lv_all HCe.out hF
        have HNa := hide fun (k : Nat) (hk : k < NS.length) (h4 : (NS.getD k n0).op ≠ 4) => nodes_at HCe.out hX hk h4
        have HNe := hide (nodes_end HCe.out hX)
        have hrt := (sound_root (ck_sound HCe.out)).2.2
        rw [HLn.out] at hrt
        have hz : Cde.vaZ F D v I o = (0, X) := by unfold Cde.vaZ; rw [HIl.out, HOl.out, if_pos (lo_may HCe.out), if_pos hF]; exact hX.run
        rw [← HIl.out] at HNa HNe
        have HAl := hide (all_one F D v (root := root) HX6.out HI6.out HN6.out HSh.out (HPI.out.later HM6.out.lo) (evE_zero.2 ⟨HCe.out, hF⟩))
        have HLv : Hid ((vaR F D v BS NS []).length = dl) := hide (by rw [vaR_len, HLn.out]; simp)
        have HVs := hide fun (w : World) (h : Cde.Ins w ca I.length cc I) (h2 : Knd.Ints w pa pl pc v.ps) => Cde.cvalues_any F D o v h h2
        rw [hz] at HVs
        generalize vaR F D v BS NS [] = Y at *
        clear hz hX hF hf HX6 HI6 HIl HOl HEr HCe
        obtain ⟨k0, k1, -, -⟩ := two_of HM6.out.k
        obtain ⟨w0, w1, w2, w3⟩ := four_of HM6.out.w
        obtain ⟨t0, t1, t2, t3⟩ := four_of HM6.out.t
        go_wp2_with fail
        refine HAl.out.mono ?_
        rintro e V7 ⟨g, rfl, hG, hb⟩
        have HM7 := hide (HM6.out.below hb)
        have HIn7 := hide (HIn6.out.later hb)
        have HN7 := hide (HN6.out.later hb)
        have HG7 := hide hG
        clear hb hG HM6 HIn6 HN6 HAl k0 k1 w0 w1 w2 w3 t0 t1 t2 t3
        obtain ⟨c0, c1, c2, c3⟩ := four_of HM7.out.c
        obtain ⟨w0, w1, w2, w3⟩ := four_of HM7.out.w
        go_wp2_with fail
        refine (HVs.out _ HIn7.out (HPI.out.later HM7.out.lo)).mono ?_
        rintro e V8 ⟨la, lc, rfl, hO, hb⟩
        have HM8 := hide (HM7.out.below hb)
        have HIn8 := hide (HIn7.out.later hb)
        have HN8 := hide (HN7.out.later hb)
        have HG8 := hide (HG7.out.below hb)
        have HL8 := hide (show Knd.Ints V8 la X.length lc X from Cde.tw_ints hO)
        dsimp only
        clear hb hO HM7 HIn7 HN7 HG7 HVs c0 c1 c2 c3 w0 w1 w2 w3
        obtain ⟨t0, t1, t2, t3⟩ := four_of HM8.out.t
        go_wp2_with fail
        clear t0 t1 t2 t3
        go_loopw [15, 16] (fun at_ i wr => ∃ (k m : Nat), k ≤ dl ∧ i = .int .i64 k ∧ at_ = .int .i64 m ∧ m ≤ k ∧ Hid (cn (NS.take k) = m) ∧ Hid (Below V8.heap.size V8 wr)) (fun _ i _ => dl - (intOf i).toNat)
        case atStart => exact ⟨0, 0, Nat.zero_le _, rfl, rfl, Nat.le_refl _, hide rfl, hide (Below.refl _ _)⟩
        case round =>
          obtain ⟨k, m, hk, rfl, rfl, hmk, HC, HB⟩ := hrel
          rename World => V
          by_cases hlt : k < dl
          · obtain ⟨gn, off, rfl, hat⟩ := (HN8.out.later HB.out).at (by omega)
            obtain ⟨e0, -⟩ := hat k hlt
            clear hat
            have hct := cn_take (NS := NS) (k := k) (by rw [HLn.out]; exact hlt)
            rw [HC.out] at hct
            have HNk := hide (HNa.out k (by rw [HLn.out]; exact hlt))
            rw [HC.out] at HNk
            have t2 := (HM8.out.t.below HB.out).cell 2 rfl
            have i0 : (0 : Int) ≤ k := by omega
            have i1 : (k : Int) < dl := by omega
            generalize NS.getD k n0 = n at *
            by_cases h4 : n.op = 4
            · rw [if_pos h4] at hct
              have HC2 := hide hct
              have q4 : (n.op == 4) = true := by simpa using h4
              clear hct h4
              go_wp2_with fail
              go_roundw
              case rel => exact ⟨k + 1, m, by omega, by go_num, rfl, by omega, HC2, HB⟩
              case measure => simp [intOf]; omega
            · rw [if_neg h4] at hct
              have HC2 := hide hct
              have q4 : (n.op == 4) = false := by simpa using h4
              obtain ⟨p0, p1, p2, p3⟩ := HNk.out h4
              obtain ⟨lb, lo, rfl, -, hl⟩ := (HL8.out.later HB.out).at (show X.length ≠ 0 by omega)
              have l0 := hl m p1
              rw [p2] at l0
              have g0 := (HG8.out.below HB.out).cell k (inA_get Y k (by rw [HLv.out]; exact hlt))
              obtain ⟨ib, io, rfl, -, hi⟩ := (HIn8.out.later HB.out).at (by omega)
              obtain ⟨x0, -⟩ := hi m p0
              rw [p3] at x0
              have c2 := (HM8.out.c.below HB.out).cell 2 rfl
              generalize Y.getD k 0 = z at *
              have j0 : (0 : Int) ≤ m := by omega
              have j1 : (m : Int) < X.length := by omega
              have j2 : (m : Int) < I.length := by omega
              have d1 : decide ((X.length : Int) ≤ (m : Int)) = false := by simp; omega
              have d2 : decide ((I.length : Int) ≤ (m : Int)) = false := by simp; omega
              have d3 : decide (X.length ≤ m) = false := by simp; omega
              have d4 : decide (I.length ≤ m) = false := by simp; omega
              clear hl hi p0 p1 p2 p3 hct h4 HNk
              go_wp2_with fail
              have y0 := cell_regrown l0
              have y1 := cell_regrown g0
              have y2 := cell_regrown x0
              have y3 := cell_regrown c2
              have y4 := cell_regrown t2
              have y5 := cell_regrown e0
              refine wp_region_quiet_below mixedL (by kernel_rfl) ?_
              repeat (go_big_quiet_step (fail))
              refine wpQuiet_nil ?_
              intro V9 hw'
              obtain ⟨⟨dq, osq⟩, hw''⟩ := hw'
              have hb := below_regrown V dq osq
              simp only at hw''
              rw [← hw''] at hb
              have HB9 := hide (bel HB.out hb)
              clear hw'' hb y0 y1 y2 y3 y4 y5 l0 g0 x0 c2 t2 e0
              go_wp2_with fail
              go_roundw
              case rel => exact ⟨k + 1, m + 1, by omega, by go_num, by go_num, by omega, HC2, HB9⟩
              case measure => simp [intOf]; omega
          · obtain rfl : k = dl := by omega
            have hm := HC.out
            rw [List.take_of_length_le (by rw [HLn.out]; exact Nat.le_refl _)] at hm
            obtain ⟨n1, n2⟩ := HNe.out
            have c2 := (HM8.out.c.below HB.out).cell 2 rfl
            have hx : X.length = m := by omega
            have hi : I.length = m := by omega
            have b1 : ((m : Int) == (X.length : Int)) = true := by simp; omega
            have b2 : ((m : Int) == (I.length : Int)) = true := by simp; omega
            clear hm n1 n2 hx hi
            go_wp2_with fail
            go_ret
            exact ⟨rfl, bel HM8.out.lo HB.out⟩
      · rw [hf]
        clear hf hF
        go_wp2_with fail
        refine (HA.out _).mono ?_
        rintro e V7 ⟨rfl, hb7⟩
        go_wp2_with fail
        go_ret
        exact ⟨rfl, bel HM6.out.lo hb7⟩
    · have hr1 : (ce != 0) = true := by simpa using h1
      clear h1
      go_wp2_with fail
      refine (HA.out _).mono ?_
      rintro e V7 ⟨rfl, hb7⟩
      go_wp2_with fail
      go_ret
      exact ⟨rfl, bel HM5.out.lo hb7⟩
  · have hr : (er != 0) = true := by simpa using h0
    clear h0
    go_wp2_with fail
    refine (HA.out _).mono ?_
    rintro e V7 ⟨rfl, hb7⟩
    go_wp2_with fail
    go_ret
    exact ⟨rfl, bel HM5.out.lo hb7⟩

end Go.Proofs.YtngnnijpdjhelaaGreat
