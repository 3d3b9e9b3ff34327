/-
  EvalHolds' walk.
-/
import Derived.Test.YtimdcmponhcngaaGreatZHd
import Derived.Lib.QuietBelow
import Derived.BigQuiet
namespace Go.Proofs.YtimdcmponhcngaaGreat
open Go.RowKit Go.IntWalk Lx Pz
set_option linter.unusedVariables false

theorem tx_nil' (W : World) : Tx W none 0 0 [] := ⟨rfl, Nat.le_refl _, Nat.zero_le _, .inl rfl⟩
theorem iz_nil' (W : World) : Iz W none 0 0 [] := ⟨rfl, Nat.le_refl _, Nat.zero_le _, .inl rfl⟩
theorem nz_nil' (W : World) : Nz W none 0 0 [] := ⟨rfl, Nat.le_refl _, Nat.zero_le _, .inl rfl⟩
/-- What Parse answers, of every text: a tree in memory; behind an error one that is not sound. -/
theorem parse_tree (s : ByteArray) (w : World) : Calls Tryz.prog 19 #[.string s] w fun e W' =>
    ∃ NM BS NS root na nl nc ba bl bc da dl dc er, e = .returned (.tuple #[.agg (tr4 (.slice na nl nc) (.slice ba bl bc) (.slice da dl dc) (.int .i64 root)), .int .i64 er]) ∧
      (er ≠ 0 → chkP NM BS NS root = false) ∧ (∀ s ∈ NM, s.length ≤ 9223372036854775807) ∧ Tx W' na nl nc NM ∧ Iz W' ba bl bc BS ∧ Nz W' da dl dc NS ∧ Below w.heap.size w W' := by
  refine (parse_full s w).mono ?_
  rintro e W1 (⟨h1, h2⟩ | ⟨A, NM, es, ex, na, nc, ba, bc, da, dc, ha, hg, hD, rfl, hX, hI, hN, hb⟩)
  · exact ⟨[], [], [], 0, none, 0, 0, none, 0, 0, none, 0, 0, 10, h1, fun _ => by decide, by simp, tx_nil' _, iz_nil' _, nz_nil' _, h2⟩
  · exact ⟨NM, _, _, _, na, _, nc, ba, _, bc, da, _, dc, 0, rfl, fun h => absurd rfl h, nm_short hD.ok, hX, hI, hN, hb⟩

/-- The law's boxes. -/
structure Hq (W V : World) (bt : Nat) (kd wd tr : Array Value) : Prop where
  k : HasC V W.heap.size 23 kd
  w : HasC V (W.heap.size + 1) 30 wd
  t : HasC V bt 28 tr
  lo : Below W.heap.size W V
theorem Hq.below {W V V' : World} {bt : Nat} {kd wd tr : Array Value} (h : Hq W V bt kd wd tr) (hb : Below V.heap.size V V') : Hq W V' bt kd wd tr :=
  ⟨h.k.below hb, h.w.below hb, h.t.below hb, bel h.lo hb⟩
theorem mixedH : Tryz.prog.follows .mixedOrders = true := by kernel_rfl

set_option maxRecDepth 100000 in
set_option maxHeartbeats 8000000 in
theorem holds_walk (f d : Int) (s : ByteArray) (v : Wd) (pa : Option Addr) (pl pc : Nat) (W : World) (hP : Knd.Ints W pa pl pc v.ps) :
    Calls Tryz.prog 4 #[.agg (kdA f d), .string s, .agg (wdA v pa pl pc)] W fun e w' => e = .returned (.bool true) ∧ Below W.heap.size W w' := by
  have HA := hide fun V => vawake_any V
  have HP := hide fun V => parse_tree s V
  have hb1 := bel1 W (.cells (kdA f d) 23)
  have HB0 := hide (bel hb1 (bel1 (W.alloc (.cells (kdA f d) 23)) (.cells (wdA v pa pl pc) 30)))
  have HK0 := hide ((HasC.new W 23 (kdA f d)).alloc (.cells (wdA v pa pl pc) 30))
  have HW0 : Hid (HasC ((W.alloc (.cells (kdA f d) 23)).alloc (.cells (wdA v pa pl pc) 30)) (W.heap.size + 1) 30 (wdA v pa pl pc)) := by
    have := HasC.new (W.alloc (.cells (kdA f d) 23)) 30 (wdA v pa pl pc)
    simp only [World.size_alloc] at this
    exact hide this
  have HPI := hide hP
  have HF := hide fun w h => Knd.fits_any f d v.x v.y v.c pa pl pc v.ps w h
  clear hb1 hP
  go_enter Tryz.func4, Tryz.ntmps4
  go_wp2_with fail
  refine (HP.out _).mono ?_
  rintro e V1 ⟨NM, BS, NS, root, na, nl, nc, ba, bl, bc, da, dl, dc, er, rfl, her, hsh, hX, hI, hN, hb⟩
  have HEr := hide her
  have HSh := hide hsh
  have hb2 := bel1 V1 (.cells (tr4 (.slice na nl nc) (.slice ba bl bc) (.slice da dl dc) (.int .i64 root)) 28)
  have HQ0 : Hid (Hq W (V1.alloc (.cells (tr4 (.slice na nl nc) (.slice ba bl bc) (.slice da dl dc) (.int .i64 root)) 28)) V1.heap.size (kdA f d) (wdA v pa pl pc) (tr4 (.slice na nl nc) (.slice ba bl bc) (.slice da dl dc) (.int .i64 root))) :=
    ⟨(HK0.out.below hb).below hb2, (HW0.out.below hb).below hb2, HasC.new _ _ _, bel (bel HB0.out hb) hb2⟩
  have HX := hide (hX.later hb2)
  have HI := hide (hI.later hb2)
  have HN := hide (hN.later hb2)
  have HLn := hide hN.len
  obtain ⟨k0, k1, -, -⟩ := two_of (HK0.out.below hb)
  have z0 := (HK0.out.below hb).lt
  obtain ⟨V2, hV2⟩ : ∃ V2, V1.alloc (.cells (tr4 (.slice na nl nc) (.slice ba bl bc) (.slice da dl dc) (.int .i64 root)) 28) = V2 := ⟨_, rfl⟩
  have HC := hide (ccheck_any f d (root := root) (W := V2) (by rw [← hV2]; exact HX.out) (by rw [← hV2]; exact HI.out) (by rw [← hV2]; exact HN.out) HSh.out)
  rw [← hV2] at HC
  clear hV2 her hsh hX hI hN hb hb2 HP HK0 HW0 HB0
  go_wp2_with fail
  refine HC.out.mono ?_
  intro e V3 hck
  obtain ⟨ga, gl, gc, co, mx, rfl, hsp, hb⟩ : ∃ ga gl gc co mx, e = .returned (.tuple #[.agg #[.slice ga gl gc, .int .i64 co, .int .i64 mx], .int .i64 (ckE f d NM BS NS root)]) ∧
      (ckE f d NM BS NS root = 0 → ∃ g, ga = some ⟨g, 0, none⟩ ∧ gl = NS.length ∧ HasC V3 g 58 (spA (spR f d BS NS []).1)) ∧ Below (V1.alloc (.cells (tr4 (.slice na nl nc) (.slice ba bl bc) (.slice da dl dc) (.int .i64 root)) 28)).heap.size (V1.alloc (.cells (tr4 (.slice na nl nc) (.slice ba bl bc) (.slice da dl dc) (.int .i64 root)) 28)) V3 := by
    rcases hck with ⟨he, rfl, hb⟩ | ⟨he, g, rfl, hg, hG, hb⟩
    · exact ⟨none, 0, 0, 0, 0, rfl, fun h => absurd h he, hb⟩
    · exact ⟨_, _, _, _, _, by rw [he], fun _ => ⟨g, rfl, rfl, hG⟩, hb⟩
  clear hck HC
  obtain ⟨ce, hce⟩ : ∃ ce, ckE f d NM BS NS root = ce := ⟨_, rfl⟩
  rw [hce] at hsp ⊢
  have hb2 := bel1 V3 (.cells #[.slice ga gl gc, .int .i64 co, .int .i64 mx] 52)
  have HQ1 := hide (HQ0.out.below hb)
  have HQ2 := hide (HQ1.out.below hb2)
  have HRp := hide (HasC.new V3 52 #[.slice ga gl gc, .int .i64 co, .int .i64 mx])
  have HSp := hide fun h => by obtain ⟨g, a, b, c⟩ := hsp h; exact (⟨g, a, b, c.below hb2⟩ : ∃ g, ga = some ⟨g, 0, none⟩ ∧ gl = NS.length ∧ HasC (V3.alloc (.cells #[.slice ga gl gc, .int .i64 co, .int .i64 mx] 52)) g 58 (spA (spR f d BS NS []).1))
  have HX3 := hide ((HX.out.later hb).later hb2)
  have HI3 := hide ((HI.out.later hb).later hb2)
  have HN3 := hide ((HN.out.later hb).later hb2)
  have HAl := hide (vall_any f d v (root := root) HX3.out HI3.out HN3.out HSh.out (HPI.out.later HQ2.out.lo))
  clear hsp HX HI HN HX3 HI3 HN3 hb hb2 HQ0 k0 k1 z0
  obtain ⟨k0, k1, -, -⟩ := two_of HQ1.out.k
  obtain ⟨w0, w1, w2, w3⟩ := four_of HQ1.out.w
  obtain ⟨t0, t1, t2, t3⟩ := four_of HQ1.out.t
  have z0 := HQ1.out.k.lt
  have z1 := HQ1.out.w.lt
  have z2 := HQ1.out.t.lt
  go_wp2_with fail
  refine HAl.out.mono ?_
  intro e V4 hal
  obtain ⟨la, ll, lc, rfl, hl0, hl1, hb⟩ : ∃ la ll lc, e = .returned (.tuple #[.slice la ll lc, .int .i64 (evE f d v NM BS NS root)]) ∧ (evE f d v NM BS NS root ≠ 0 → ll = 0) ∧
      (evE f d v NM BS NS root = 0 → ∃ g, la = some ⟨g, 0, none⟩ ∧ ll = NS.length ∧ HasC V4 g 3 (inA (vaR f d v BS NS []))) ∧ Below (V3.alloc (.cells #[.slice ga gl gc, .int .i64 co, .int .i64 mx] 52)).heap.size (V3.alloc (.cells #[.slice ga gl gc, .int .i64 co, .int .i64 mx] 52)) V4 := by
    rcases hal with ⟨he, rfl, hb⟩ | ⟨he, g, rfl, hg, hG, hb⟩
    · exact ⟨none, 0, 0, rfl, fun _ => rfl, fun h => absurd h he, hb⟩
    · exact ⟨_, _, _, by rw [he], fun h => absurd he h, fun _ => ⟨g, rfl, rfl, hG⟩, hb⟩
  clear hal HAl k0 k1 w0 w1 w2 w3 t0 t1 t2 t3 z0 z1 z2
  have HQ4 := hide (HQ2.out.below hb)
  have HRp4 := hide (HRp.out.below hb)
  have HSp4 := hide fun h => by obtain ⟨g, a, b, c⟩ := HSp.out h; exact (⟨g, a, b, c.below hb⟩ : ∃ g, ga = some ⟨g, 0, none⟩ ∧ gl = NS.length ∧ HasC V4 g 58 (spA (spR f d BS NS []).1))
  obtain ⟨ev, hev⟩ : ∃ ev, evE f d v NM BS NS root = ev := ⟨_, rfl⟩
  rw [hev] at hl0 hl1 ⊢
  have HL0 := hide hl0
  have HL1 := hide hl1
  have HCe := hide hce
  have HEv := hide hev
  clear hl0 hl1 hce hev hb HQ1 HQ2 HRp HSp
  generalize V1.heap.size = bt at *
  generalize V3.heap.size = br at *
  go_wp2_with fail
  refine (HA.out _).mono ?_
  rintro e V5 ⟨rfl, hb⟩
  have HQ5 := hide (HQ4.out.below hb)
  have HRp5 := hide (HRp4.out.below hb)
  have HSp5 := hide fun h => by obtain ⟨g, a, b, c⟩ := HSp4.out h; exact (⟨g, a, b, c.below hb⟩ : ∃ g, ga = some ⟨g, 0, none⟩ ∧ gl = NS.length ∧ HasC V5 g 58 (spA (spR f d BS NS []).1))
  have HL5 := hide fun h => by obtain ⟨g, a, b, c⟩ := HL1.out h; exact (⟨g, a, b, c.below hb⟩ : ∃ g, la = some ⟨g, 0, none⟩ ∧ ll = NS.length ∧ HasC V5 g 3 (inA (vaR f d v BS NS [])))
  clear hb HQ4 HRp4 HSp4 HL1
  have hbad : ce ≠ 0 → ev ≠ 0 := fun h h0 => by
    have := (evE_zero.1 (HEv.out.trans h0)).1
    rw [HCe.out] at this
    exact h this
  by_cases h0 : er = 0
  · have hr : (er != 0) = false := by simpa using h0
    by_cases h1 : ce = 0
    · have hr1 : (ce != 0) = false := by simpa using h1
      obtain ⟨k0, k1, -, -⟩ := two_of HQ5.out.k
      obtain ⟨w0, w1, w2, w3⟩ := four_of HQ5.out.w
      clear hbad
      go_wp2_with fail
      refine (HF.out _ (HPI.out.later HQ5.out.lo)).mono ?_
      rintro e V6 ⟨rfl, hb⟩
      have hb' : Below W.heap.size W V6 := bel HQ5.out.lo hb
      clear k0 k1 w0 w1 w2 w3
      rcases fitE_cases f d v with ⟨hF, hf⟩ | ⟨hF, hf⟩
      · rw [hf]
        obtain rfl : ev = 0 := by rw [← HEv.out]; exact evE_zero.2 ⟨by rw [HCe.out, h1], hF⟩
        obtain ⟨g1, rfl, rfl, hG1⟩ := HSp5.out h1
        obtain ⟨g2, rfl, rfl, hG2⟩ := HL5.out rfl
        have HIn := hide (holds_va (by rw [HCe.out, h1]) hF)
        have HLs : Hid ((spR f d BS NS []).1.length = NS.length) := hide (by
          have := spR_len (Prod.ext rfl (ck_zero.1 (HCe.out.trans h1)).2.2.2.1 : spR f d BS NS [] = (_, 0))
          simpa using this)
        have HLv : Hid ((vaR f d v BS NS []).length = NS.length) := hide (by rw [vaR_len]; simp)
        have HG1 := hide (hG1.below hb)
        have HG2 := hide (hG2.below hb)
        have HRp6 := hide (HRp5.out.below hb)
        have HQ6 := hide (HQ5.out.below hb)
        have r0 := HRp6.out.cell 0 rfl
        have t2 := HQ6.out.t.cell 2 rfl
        have hdl : dl ≤ 9223372036854775807 := by
          have h5 := (sound_root (ck_sound (HCe.out.trans h1))).2.2
          rw [HLn.out] at h5
          omega
        rw [HLn.out] at HRp6 HLs HLv r0 ⊢
        clear hb hb' hf hF h0 h1 hr hr1 hG1 hG2 HL0 HL5 HSp5 HRp5 HQ5 HCe HEv HEr HSh HA HF HPI HLn
        generalize (spR f d BS NS []).1 = S at *
        generalize vaR f d v BS NS [] = X at *
        go_wp2_with fail
        go_loopw [13] (fun i wr => ∃ k : Nat, k ≤ dl ∧ i = .int .i64 k ∧ Hid (Below V6.heap.size V6 wr)) (fun i _ => dl - (intOf i).toNat)
        case atStart => exact ⟨0, Nat.zero_le _, rfl, hide (Below.refl _ _)⟩
        case round =>
          obtain ⟨k, hk, rfl, HBk⟩ := hrel
          rename World => V
          clear r0 t2
          by_cases hlt : k < dl
          · obtain ⟨i1, i2, i3⟩ := HIn.out.2 k (by rw [HLs.out]; exact hlt)
            obtain ⟨s0, s1⟩ := spA_get S k (by rw [HLs.out]; exact hlt)
            have c0 := (HG1.out.below HBk.out).cell _ s0
            have c1 := (HG1.out.below HBk.out).cell _ s1
            have c2 := (HG2.out.below HBk.out).cell _ (inA_get X k (by rw [HLv.out]; exact hlt))
            have r0 := (HRp6.out.below HBk.out).cell 0 rfl
            generalize (S.getD k (0, 0)).1 = lo at *
            generalize (S.getD k (0, 0)).2 = hi at *
            generalize X.getD k 0 = z at *
            have HH := hide fun w => Spn.has_any lo hi z w
            rw [show Spn.hasB lo hi z = true from Spn.hasB_iff.2 ⟨i1, i2⟩] at HH
            have HWd := hide fun (w : World) => (Spn.word_any z w).mono fun e w' (h : _ ∧ w' = w) => (⟨h.1, by rw [h.2]; exact Below.refl _ _⟩ : e = .returned (.bool (Spn.wd z)) ∧ Below w.heap.size w w')
            rw [show Spn.wd z = true from wd_of i3] at HWd
            have j0 : (0 : Int) ≤ k := by omega
            have j1 : (k : Int) < dl := by omega
            clear i1 i2 i3 s0 s1
            go_wp2_with fail
            have y0 := cell_regrown c0
            have y1 := cell_regrown c1
            have y2 := cell_regrown c2
            have y3 := cell_regrown r0
            refine wp_region_quiet_below mixedH (by kernel_rfl) ?_
            repeat (first | go_big_quiet_step (first
              | (go_at_call 22; exact Calls.regrown_of (HH.out _))
              | (go_at_call 23; exact Calls.regrown_of (HWd.out _))))
            refine wpQuiet_nil ?_
            intro _ hw'
            obtain ⟨⟨dq, osq⟩, hw''⟩ := hw'
            subst hw''
            have HB2 := hide (bel HBk.out (below_regrown V dq osq))
            clear y0 y1 y2 y3 c0 c1 c2 r0
            go_wp2_with fail
            go_roundw
            case rel => exact ⟨k + 1, by omega, by go_num, HB2⟩
            case measure => simp [intOf]; omega
          · obtain rfl : k = dl := by omega
            go_wp2_with fail
            go_ret
            exact ⟨rfl, bel HQ6.out.lo HBk.out⟩
      · rw [hf]
        have hev : ev ≠ 0 := fun h => hF (evE_zero.1 (HEv.out.trans h)).2
        have h3 : (ev != 0) = true := by simpa using hev
        obtain rfl := HL0.out hev
        clear hf hF hev
        go_wp2_with fail
        refine (HA.out _).mono ?_
        rintro e V7 ⟨rfl, hb7⟩
        go_wp2_with fail
        go_ret
        exact ⟨rfl, bel hb' hb7⟩
    · have hr1 : (ce != 0) = true := by simpa using h1
      have h3 : (ev != 0) = true := by simpa using hbad h1
      obtain rfl := HL0.out (hbad h1)
      clear hbad
      go_wp2_with fail
      refine (HA.out _).mono ?_
      rintro e V7 ⟨rfl, hb7⟩
      go_wp2_with fail
      go_ret
      exact ⟨rfl, bel HQ5.out.lo hb7⟩
  · have hr : (er != 0) = true := by simpa using h0
    have hce : ce ≠ 0 := fun h => by
      have h2 := ck_sound (HCe.out.trans h)
      rw [HEr.out h0] at h2
      cases h2
    have h3 : (ev != 0) = true := by simpa using hbad hce
    obtain rfl := HL0.out (hbad hce)
    clear hbad hce
    go_wp2_with fail
    refine (HA.out _).mono ?_
    rintro e V7 ⟨rfl, hb7⟩
    go_wp2_with fail
    go_ret
    exact ⟨rfl, bel HQ5.out.lo hb7⟩

end Go.Proofs.YtimdcmponhcngaaGreat
