/-
  VmSafe's walk.
-/
import Derived.Test.YtjmfboegnmogdaaMXE
namespace Go.Proofs.Vmm
open Go.RowKit Go.IntWalk Ytjmfboegnmogdaa.Knd
open Ytjmfboegnmogdaa (Wd wdA Fits inpV)
open Cde (In i0 ia kd cd Ins Ls list_ls is6 at6 six_of four_of two_of has_new1 okI zA zA_get take_snoc vlI vlF vlF_snoc vlF_len vlS vaZ TwP mc_parts arN rgN rgN_at arV arV_len arV_at spn coL)
open Vfy (vfE vfN vfC vfS w32 vf_parts vf_holds va_unfit Inn)
set_option linter.unusedVariables false

theorem vlF_step {f d : Int} {v : Wd} {L : List In} {k : Nat} (hk : k < L.length) {D : List Int} (h : vlF f d v (L.take (k + 1)) = (0, D)) : vlF f d v (L.take k) = (0, D.take k) := by
  have h2 := h
  rw [take_snoc i0 hk, vlF_snoc] at h
  unfold vlS at h
  split at h
  · rename_i h0
    have hl := vlF_len f d v L k (by omega) h0
    split at h
    · simp only [Prod.mk.injEq, true_and] at h
      rw [← h]
      refine Prod.ext h0 ?_
      show _ = List.take k (_ ++ _)
      rw [List.take_append_of_le_length (by omega)]
      exact (List.take_of_length_le (by omega)).symm
    · rename_i h1
      simp only [Prod.mk.injEq] at h
      exact absurd h.1 h1
  · rename_i h0
    rw [h] at h0
    exact absurd rfl h0
theorem vlF_take {f d : Int} {v : Wd} {L : List In} : ∀ (j k : Nat) (D : List Int), k + j ≤ L.length → vlF f d v (L.take (k + j)) = (0, D) → vlF f d v (L.take k) = (0, D.take k)
  | 0, k, D, h, he => by
    have := vlF_len f d v L k (by omega) (by rw [Nat.add_zero] at he; rw [he])
    rw [Nat.add_zero] at he
    rw [he] at this ⊢
    rw [List.take_of_length_le (by simp at this; omega)]
  | j + 1, k, D, h, he => by
    have h1 := vlF_step (show k + j < L.length by omega) he
    have h2 := vlF_take j k _ (by omega) h1
    rw [h2, List.take_take]
    congr 2
    omega
/-- A register of a code that was taken: its span, its instruction. -/
theorem safe_at {f d out : Int} {L : List In} {v : Wd} (h : vfE f d L out = 0) (hF : Fits f d v) {D : List Int} (hD : vaZ f d v L out = (0, D)) {k : Nat} (hk : k < L.length) :
    okI (L.getD k i0) k = true ∧ vlI f d v D (L.getD k i0) = (D.getD k 0, 0) ∧ ((vfS f d L out).getD k (0, 0)).1 ≤ D.getD k 0 ∧ D.getD k 0 ≤ ((vfS f d L out).getD k (0, 0)).2 ∧ w32 (D.getD k 0) := by
  obtain ⟨-, -, h3⟩ := vf_holds h
  obtain ⟨V, hV, hI⟩ := h3 v hF
  rw [hD] at hV
  cases hV
  obtain ⟨m, -⟩ := vf_parts h
  rw [vaZ, if_pos m, if_pos hF] at hD
  have hl : D.length = L.length := by
    have := vlF_len f d v L L.length (Nat.le_refl _)
    rw [List.take_length, hD] at this
    exact this rfl
  have h1 := vlF_take (f := f) (d := d) (v := v) (L := L) (L.length - k) k D (by omega) (by rw [show k + (L.length - k) = L.length by omega, List.take_length]; exact hD)
  have h2 := vlF_take (f := f) (d := d) (v := v) (L := L) (L.length - (k + 1)) (k + 1) D (by omega) (by rw [show k + 1 + (L.length - (k + 1)) = L.length by omega, List.take_length]; exact hD)
  obtain ⟨hlk, -, ho, x, hx, hw, h4⟩ := run_at h hF hk h1
  rw [h2, take_snoc 0 (by omega)] at h4
  simp only [Prod.mk.injEq, true_and] at h4
  have hx2 : D.getD k 0 = x := by
    have := List.append_inj_right h4 rfl
    simpa using this
  have e : vlI f d v D (L.getD k i0) = vlI f d v (D.take k) (L.getD k i0) := by
    have := Cde.vlI_pre (f := f) (d := d) (v := v) (D := D.take k) (Z := D.drop k) (n := L.getD k i0) (by rw [hlk]; exact ho)
    rwa [List.take_append_drop] at this
  obtain ⟨i1, i2, i3⟩ := hI.2 k (by rw [← hI.1]; omega)
  exact ⟨ho, by rw [e, hx, hx2], i1, i2, i3⟩

/-- The law's boxes. -/
structure Sq (W V : World) (br : Nat) (cv wd rp : Array Value) : Prop where
  c : HasC V W.heap.size 26 cv
  w : HasC V (W.heap.size + 1) 29 wd
  r : HasC V br 36 rp
  lo : Below W.heap.size W V
theorem Sq.below {W V V' : World} {br : Nat} {cv wd rp : Array Value} (h : Sq W V br cv wd rp) (hb : Below V.heap.size V V') : Sq W V' br cv wd rp := ⟨h.c.below hb, h.w.below hb, h.r.below hb, bel h.lo hb⟩
theorem ar_zero {op : Int} (h : Ytjmfboegnmogdaa.Spn.ar op = 0) : op = 1 ∨ op = 2 ∨ op = 3 := by
  unfold Ytjmfboegnmogdaa.Spn.ar at h
  split at h
  · assumption
  · split at h
    · omega
    · split at h
      · omega
      · split at h <;> omega

set_option maxRecDepth 100000 in
set_option maxHeartbeats 16000000 in
theorem vsafe_walk (f d out : Int) (v : Wd) {a pa : Option Addr} {n cap pl pc : Nat} {L : List In} {W : World} (hL : Ins W a n cap L) (hP : Ints W pa pl pc v.ps) :
    Calls Try.prog 3 #[.agg (cd f d a n cap out), .agg (wdA v pa pl pc)] W fun e w' => e = .returned (.bool true) ∧ Below W.heap.size W w' := by
  have HA := hide fun w => mawake_any w
  have hb1 := bel1 W (.cells (cd f d a n cap out) 26)
  have hb2 := bel hb1 (bel1 (W.alloc (.cells (cd f d a n cap out) 26)) (.cells (wdA v pa pl pc) 29))
  have HC0 := hide ((HasC.new W 26 (cd f d a n cap out)).alloc (.cells (wdA v pa pl pc) 29))
  have HW0 := hide (has_new1 W (.cells (cd f d a n cap out) 26) 29 (wdA v pa pl pc))
  have HB0 := hide hb2
  have HLI := hide hL
  have HPI := hide hP
  have HLn := hide hL.len
  have HN := hide (mNew_any f d out (hL.later hb2))
  have HV := hide fun (V : World) (hb : Below W.heap.size W V) => Vfy.yverify_any f d out (hL.later hb)
  clear hb1 hb2 hL hP
  by_cases h0 : vfE f d L out = 0
  · have H0 := hide h0
    obtain ⟨hco, h200, -⟩ := vf_holds h0
    obtain ⟨mc, -, -, -, hvn, hvc⟩ := vf_parts h0
    obtain ⟨-, m1, m2, m3, m4, -⟩ := mc_parts mc
    rw [HLn.out] at hco m1 m2 m4 hvn
    obtain ⟨co, hcz⟩ : ∃ co, coL L = co := ⟨_, rfl⟩
    rw [hcz] at hco h200 hvc
    unfold Vfy.VfP at HV
    rw [h0, hvn, hvc] at HV
    have HSl : Hid ((vfS f d L out).length = n) := hide (by rw [Vfy.vfS_len, hvn])
    have HR := hide fun (V : World) (lo g : Nat) (a' : Option Addr) (n' c' : Nat) (h : Mc V lo g f d L out a' n' c') (hb : Below W.heap.size W V) => mRun_any v h (HPI.out.later hb) h0
    have HT := hide fun (V : World) (lo g : Nat) (a' : Option Addr) (n' c' : Nat) (h : Mc V lo g f d L out a' n' c') (hb : Below W.heap.size W V) => mTrace_any v h (HPI.out.later hb) h0
    clear mc hcz h0 hvn hvc
    go_enter Try.func3, Try.ntmps3
    go_wp2_with fail
    refine HN.out.mono ?_
    rintro e V1 ⟨hb, ⟨hn0, -⟩ | ⟨-, g, a1, n1, c1, rfl, hM⟩⟩
    · exact absurd H0.out hn0
    have HM1 := hide hM
    have HC1 := hide (HC0.out.below hb)
    have HW1 := hide (HW0.out.below hb)
    have HB1 := hide (bel HB0.out hb)
    clear hb hM HN HC0 HW0 HB0
    obtain ⟨c0, c1', c2, c3⟩ := four_of HC1.out
    go_wp2_with fail
    refine (HV.out _ HB1.out).mono ?_
    rintro e V2 ⟨ga, gc, rfl, hS, hb, -, -⟩
    have hb2 := bel1 V2 (.cells #[.slice ga n gc, .int .i64 co, .int .i64 0] 36)
    have HQ2 : Hid (Sq W (V2.alloc (.cells #[.slice ga n gc, .int .i64 co, .int .i64 0] 36)) V2.heap.size (cd f d a n cap out) (wdA v pa pl pc) #[.slice ga n gc, .int .i64 co, .int .i64 0]) := hide ⟨(HC1.out.below hb).below hb2, (HW1.out.below hb).below hb2, HasC.new _ _ _, bel (bel HB1.out hb) hb2⟩
    have HM2 := hide (HM1.out.later (bel hb hb2))
    have HS2 := hide (hS.later hb2)
    clear hb hb2 hS HV HC1 HW1 HB1 HM1 c0 c1' c2 c3
    go_wp2_with fail
    refine (HA.out _).mono ?_
    rintro e V3 ⟨rfl, hb⟩
    generalize V2.heap.size = br at *
    have HQ3 := hide (HQ2.out.below hb)
    have HM3 := hide (HM2.out.later hb)
    have HS3 := hide (HS2.out.later hb)
    clear hb HA HQ2 HM2 HS2
    obtain ⟨w0, w1, w2, w3⟩ := four_of HQ3.out.w
    go_wp2_with fail
    refine (HR.out _ _ _ _ _ _ HM3.out HQ3.out.lo).mono ?_
    rintro e V4 ⟨rfl, hb⟩
    have HQ4 := hide (HQ3.out.below hb)
    have HM4 := hide (HM3.out.later hb)
    have HS4 := hide (HS3.out.later hb)
    clear hb HR HQ3 HM3 HS3 w0 w1 w2 w3
    obtain ⟨w0, w1, w2, w3⟩ := four_of HQ4.out.w
    rcases run_two H0.out v with ⟨hF, D, hD, hDl, -, -, -⟩ | ⟨hF, hD⟩
    · rw [HLn.out] at hDl
      rw [hD] at HT ⊢
      obtain ⟨q, rfl⟩ : ∃ q : Nat, out = q := ⟨out.toNat, by omega⟩
      obtain ⟨xq, hxq⟩ : ∃ x, D.getD q 0 = x := ⟨_, rfl⟩
      rw [show runV (0, D) q = .tuple #[.int .i64 xq, .int .i64 n, .int .i64 0] by simp [runV, rnX, rnN, hDl, ← hxq]]
      have HXq := hide hxq
      have HAt := hide fun (k : Nat) hk => safe_at H0.out hF hD (k := k) hk
      have HDl := hide hDl
      clear hF hD hDl hxq
      go_wp2_with fail
      refine (HT.out _ _ _ _ _ _ HM4.out HQ4.out.lo).mono ?_
      rintro e V5 ⟨la, lc, rfl, hO, hb⟩
      have HQ5 := hide (HQ4.out.below hb)
      have HS5 := hide (HS4.out.later hb)
      have HI5 := hide (Cde.tw_ints hO)
      rw [HDl.out] at HI5
      dsimp only
      rw [HDl.out]
      clear hb hO HT HQ4 HM4 HS4 w0 w1 w2 w3
      obtain ⟨c0, c1', c2, c3⟩ := four_of HQ5.out.c
      obtain ⟨r0, r1, r2, -, -, -⟩ := Vfy.three_of HQ5.out.r
      obtain ⟨lb, lo, rfl, -, hat⟩ := HI5.out.at (by omega)
      have lx := hat q (by omega)
      clear hat
      rw [HXq.out] at lx
      have q1 : decide (co < (n : Int)) = false := by simp; omega
      have q2 : decide ((200 : Int) < (n : Int)) = false := by simp; omega
      have q2' : decide (200 < n) = false := by simp; omega
      have q3 : ((n : Int) != (n : Int)) = false := by simp
      have q4 : (xq != xq) = false := by simp
      have q5 : decide ((n : Int) ≤ (q : Int)) = false := by simp; omega
      have q6 : decide (n ≤ q) = false := by simp; omega
      have i0 : (0 : Int) ≤ q := by omega
      have i1 : (q : Int) < n := by omega
      clear hco h200
      go_wp2_with fail
      have hn0 : n ≤ 200 := m2
      clear c0 c1' c2 c3 r0 r1 r2 lx q1 q2 q2' q3 q4 q5 q6 i0 i1 HXq m2 m3 m4
      go_loopw [14] (fun i wr => ∃ k : Nat, k ≤ n ∧ i = .int .i64 k ∧ Hid (Below V5.heap.size V5 wr)) (fun i _ => n - (intOf i).toNat)
      case atStart => exact ⟨0, Nat.zero_le _, rfl, hide (Below.refl _ _)⟩
      case round =>
        obtain ⟨k, hk, rfl, HBk⟩ := hrel
        rename World => Vr
        by_cases hlt : k < n
        · obtain ⟨hok, hv, i1, i2, i3⟩ := HAt.out k (by rw [HLn.out]; exact hlt)
          obtain ⟨b1, o1, rfl, -, hc1⟩ := (HS5.out.later HBk.out).at (by omega)
          obtain ⟨s0, s1⟩ := hc1 k hlt
          obtain ⟨_, _, he5, -, hat5⟩ := (HI5.out.later HBk.out).at (by omega)
          cases he5
          have s2 := hat5 k hlt
          have r0 := (HQ5.out.r.below HBk.out).cell 0 rfl
          generalize ((vfS f d L (q : Int)).getD k (0, 0)).1 = lo' at *
          generalize ((vfS f d L (q : Int)).getD k (0, 0)).2 = hi' at *
          obtain ⟨x, hx⟩ : ∃ x, D.getD k 0 = x := ⟨_, rfl⟩
          rw [hx] at s2 hv i1 i2 i3
          have HX := hide hx
          have HH := hide fun w => Ytjmfboegnmogdaa.Spn.has_any lo' hi' x w
          rw [show Ytjmfboegnmogdaa.Spn.hasB lo' hi' x = true from Ytjmfboegnmogdaa.Spn.hasB_iff.2 ⟨i1, i2⟩] at HH
          have HWd := hide fun (w : World) => (Ytjmfboegnmogdaa.Spn.word_any x w).mono fun e w' (h : _ ∧ w' = w) => (⟨h.1, by rw [h.2]; exact Below.refl _ _⟩ : e = .returned (.bool (Ytjmfboegnmogdaa.Spn.wd x)) ∧ Below w.heap.size w w')
          rw [show Ytjmfboegnmogdaa.Spn.wd x = true from Ytjmfboegnmogdaa.Spn.wd_iff.2 i3] at HWd
          have HOk := hide hok
          have HVl := hide hv
          have j0 : (0 : Int) ≤ k := by omega
          have j1 : (k : Int) < n := by omega
          clear i1 i2 i3 hc1 hat5 hok hv hx
          go_wp2_with fail
          have y0 := cell_regrown s0
          have y1 := cell_regrown s1
          have y2 := cell_regrown s2
          have y3 := cell_regrown r0
          refine wp_region_quiet_below Cde.mixed0 (by kernel_rfl) ?_
          repeat (first | go_big_quiet_step (first
            | (go_at_call 11; exact Calls.regrown_of (HH.out _))
            | (go_at_call 10; exact Calls.regrown_of (HWd.out _))))
          refine wpQuiet_nil ?_
          intro Vs hw'
          obtain ⟨⟨dq, osq⟩, hw''⟩ := hw'
          have hb := below_regrown Vr dq osq
          simp only at hw''
          rw [← hw''] at hb
          have HBs := hide (bel HBk.out hb)
          have HQs := hide (HQ5.out.below HBs.out)
          clear hw'' y0 y1 y2 y3 s0 s1 s2 r0 hb HH HWd HBk
          obtain ⟨c0, c1', c2, c3⟩ := four_of HQs.out.c
          obtain ⟨gi, offi, rfl, -, hati⟩ := (HLI.out.later HQs.out.lo).at (by omega)
          obtain ⟨e0, e1, e2, e3, e4, e5⟩ := hati k hlt
          have HAg := hide fun w => Cde.cargs_any (L.getD k i0) w
          have HEt := hide fun (V : World) (hb : Below W.heap.size W V) => by
            obtain ⟨_, _, he, -, hat⟩ := (HLI.out.later hb).at (by omega)
            cases he
            exact hat k hlt
          have har := Cde.ok_ar HOk.out
          obtain ⟨r, hr⟩ : ∃ r : Nat, Ytjmfboegnmogdaa.Spn.ar (L.getD k i0).op = (r : Int) := ⟨(Ytjmfboegnmogdaa.Spn.ar (L.getD k i0).op).toNat, by omega⟩
          have hrN : arN (L.getD k i0) = r := by unfold arN; omega
          have hr3 : r ≤ 3 := by have := Cde.arN_le (L.getD k i0); omega
          rw [hrN] at HAg
          have HR2 := hide fun j (hj : j < r) => Cde.ok_reg HOk.out (j := j) (by rw [hrN]; exact hj)
          have HAt3 := hide fun j (hj : j < r) => arV_at D (L.getD k i0) j (by rw [hrN]; exact hj)
          have HAl : Hid ((arV D (L.getD k i0)).length = r) := hide (by rw [arV_len, hrN])
          have HVz : Hid (0 < r → Ytjmfboegnmogdaa.Spn.valZ (L.getD k i0).op (L.getD k i0).k (L.getD k i0).s (arV D (L.getD k i0)) = (x, 0)) := hide fun h0 => by
            have h := HVl.out
            have h1 : (L.getD k i0).op ≠ 1 := fun e => by rw [e] at hr; have h9 : Ytjmfboegnmogdaa.Spn.ar 1 = 0 := (by decide); omega
            have h2 : (L.getD k i0).op ≠ 2 := fun e => by rw [e] at hr; have h9 : Ytjmfboegnmogdaa.Spn.ar 2 = 0 := (by decide); omega
            have h3 : (L.getD k i0).op ≠ 3 := fun e => by rw [e] at hr; have h9 : Ytjmfboegnmogdaa.Spn.ar 3 = 0 := (by decide); omega
            rw [vlI, if_neg h1, if_neg h2, if_neg h3] at h
            exact h
          generalize L.getD k i0 = m at *
          clear hati har hr hrN HVl HOk
          go_wp2_with fail
          refine (HAg.out _).mono ?_
          rintro e V6 ⟨rfl, hG, hb⟩
          have HB6 := hide (bel HBs.out hb)
          have HQ6 := hide (HQs.out.below hb)
          have HG := hide hG
          have hgl := HG.out.lt
          clear hG hb c0 c1' c2 c3 e0 e1 e2 e3 e4 e5 HAg HBs HQs
          generalize Vs.heap.size + 1 = gg at *
          rcases Nat.eq_zero_or_pos r with h0 | h0
          · subst h0
            clear HVz HAl HAt3 HR2 HG hgl
            go_wp2_with fail
            go_roundw
            case rel => exact ⟨k + 1, by omega, by go_num, HB6⟩
            case measure => simp [intOf]; omega
          have HVy := hide (HVz.out h0)
          have hr5 : (0 : Int) < r := by omega
          have hr6 : (((r : Nat) : Int) == 0) = false := by simp; omega
          clear HVz
          generalize hA : arV D m = A at *
          go_wp2_with fail
          go_loopw [16, 17] (fun vv j wr => ∃ p : Nat, p ≤ r ∧ j = .int .i64 p ∧ Hid (Ls V6 wr vv (A.take p))) (fun _ j _ => r - (intOf j).toNat)
          case atStart => exact ⟨0, Nat.zero_le _, rfl, hide (Ls.start V6)⟩
          case round =>
            obtain ⟨p, hp, rfl, HE⟩ := hrel
            rename World => V7
            by_cases hpr : p < r
            · have cp := (HG.out.below HE.out.bel).cell p (zA_get _ p (by simp [Cde.abc]; omega))
              rw [Cde.abc_at m p (by omega)] at cp
              obtain ⟨p0, p1⟩ := HR2.out p hpr
              have HT := hide (take_snoc 0 (L := A) (k := p) (by rw [HAl.out]; exact hpr))
              rw [HAt3.out p hpr] at HT
              obtain ⟨u, hu⟩ : ∃ u : Nat, rgN m p = (u : Int) := ⟨(rgN m p).toNat, by omega⟩
              rw [hu] at cp p1 HT
              simp only [Int.toNat_natCast] at p1 HT
              obtain ⟨_, _, he5, -, hat5⟩ := (HI5.out.later (bel HB6.out HE.out.bel)).at (by omega)
              cases he5
              have lp := hat5 u (by omega)
              generalize D.getD u 0 = sv at *
              have s0 : (0 : Int) ≤ p := by omega
              have s1 : (p : Int) < r := by omega
              have t0 : (0 : Int) ≤ u := by omega
              have t1 : (u : Int) < n := by omega
              have t2 : decide ((k : Int) ≤ (u : Int)) = false := by simp; omega
              have t3 : decide (k ≤ u) = false := by simp; omega
              have t4 : decide ((u : Int) < 0) = false := by simp
              have HJ : Hid ((A.take p).length = p) := hide (by rw [List.length_take, HAl.out]; omega)
              clear p0 p1 hu hat5
              go_wp2_with (at_builtin; refine list_ls (w := V6) (L := A.take p) rfl _ _ rfl rfl (HE.out.alloc _) _ sv rfl (HasC.new _ _ _) (by rw [HJ.out]; omega) ?_; intro g2 cap2 w2 HE2; rw [HJ.out] at HE2 ⊢)
              go_roundw
              case rel => exact ⟨p + 1, by omega, by go_num, hide (by rw [HT.out]; exact HE2)⟩
              case measure => simp [intOf]; omega
            · obtain rfl : p = r := by omega
              have e : A.take p = A := List.take_of_length_le (by rw [HAl.out]; exact Nat.le_refl _)
              have HE1 := HE.out
              rw [e] at HE1
              obtain ⟨va, vc, rfl, hAi, -⟩ := Ints.of_owns HE1.a
              rw [HAl.out] at hAi ⊢
              have HQ7 := hide (HQ6.out.below HE1.bel)
              have HB7 := hide (bel HB6.out HE1.bel)
              have HVa := hide fun (V : World) (hb : Below V7.heap.size V7 V) => Ytjmfboegnmogdaa.Spn.value_any m.op m.k m.s _ _ _ _ V (spn (hAi.later hb))
              rw [HVy.out] at HVa
              obtain ⟨c0, c1', c2, c3⟩ := four_of HQ7.out.c
              obtain ⟨e0, e1, e2, e3, e4, e5⟩ := HEt.out _ HQ7.out.lo
              clear hAi HE1 e HE
              go_wp2_with fail
              have y0 := cell_regrown c2
              have y1 := cell_regrown e0
              have y2 := cell_regrown e4
              have y3 := cell_regrown e5
              refine wp_region_quiet_below Cde.mixed0 (by kernel_rfl) ?_
              repeat (go_big_quiet_step (fail))
              go_big_quiet_step ((go_at_call 13; exact Calls.regrown_of (HVa.out _ (below_regrown _ _ _))))
              repeat (go_big_quiet_step (fail))
              refine wpQuiet_nil ?_
              intro V8 hw'
              obtain ⟨⟨dq, osq⟩, hw''⟩ := hw'
              have hb := below_regrown V7 dq osq
              simp only at hw''
              rw [← hw''] at hb
              have HB8 := hide (bel HB7.out hb)
              clear hw'' y0 y1 y2 y3 hb c0 c1' c2 c3 e0 e1 e2 e3 e4 e5 HVa
              obtain ⟨_, _, he5, -, hat5⟩ := (HI5.out.later HB8.out).at (by omega)
              cases he5
              have lx5 := hat5 k hlt
              rw [HX.out] at lx5
              have z0 : (x != x) = false := by simp
              clear hat5
              go_wp2_with fail
              go_roundw
              case rel => exact ⟨k + 1, by omega, by go_num, HB8⟩
              case measure => simp [intOf]; omega
        · obtain rfl : k = n := by omega
          go_wp2_with fail
          go_ret
          exact ⟨rfl, bel HQ5.out.lo HBk.out⟩
    · rw [hD] at HT ⊢
      rw [show runV (1, []) out = .tuple #[.int .i64 0, .int .i64 0, .int .i64 1] from rfl]
      clear hF hD
      go_wp2_with fail
      refine (HT.out _ _ _ _ _ _ HM4.out HQ4.out.lo).mono ?_
      rintro e V5 ⟨la, lc, rfl, hO, hb⟩
      have HQ5 := hide (HQ4.out.below hb)
      clear hb hO HT HQ4 HM4 HS4 w0 w1 w2 w3
      go_wp2_with fail
      go_ret
      exact ⟨rfl, HQ5.out.lo⟩
  · have hn := Vfy.vf_none (f := f) (d := d) (L := L) (out := out) h0
    unfold Vfy.VfP at HV
    rw [hn.1, hn.2.1] at HV
    obtain ⟨er, her⟩ : ∃ er, vfE f d L out = er := ⟨_, rfl⟩
    unfold NwP at HN
    rw [her] at HV HN h0
    have H0 := hide h0
    have hr : (er != er) = false := by simp
    have hr2 : (er == 0) = false := by simpa using h0
    generalize vfS f d L out = vs at *
    clear hn her h0
    go_enter Try.func3, Try.ntmps3
    go_wp2_with fail
    refine HN.out.mono ?_
    rintro e V1 ⟨hb, hor⟩
    obtain rfl : e = .returned (.tuple #[.pointer none, .int .i64 er]) := by
      rcases hor with ⟨-, h⟩ | ⟨h, -⟩
      · exact h
      · exact absurd h H0.out
    clear hor
    have HC1 := hide (HC0.out.below hb)
    have HB1 := hide (bel HB0.out hb)
    clear hb HN HC0 HW0 HB0
    obtain ⟨c0, c1', c2, c3⟩ := four_of HC1.out
    go_wp2_with fail
    refine (HV.out _ HB1.out).mono ?_
    rintro e V2 ⟨ga, gc, rfl, hS, hb, -, -⟩
    have HB2 := hide (bel (bel HB1.out hb) (bel1 V2 (.cells #[.slice ga 0 gc, .int .i64 0, .int .i64 0] 36)))
    clear hb hS HV HC1 HB1 c0 c1' c2 c3
    go_wp2_with fail
    refine (HA.out _).mono ?_
    rintro e V3 ⟨rfl, hb⟩
    have HB3 := hide (bel HB2.out hb)
    clear hb HA HB2
    go_wp2_with fail
    go_ret
    exact ⟨rfl, HB3.out⟩

end Go.Proofs.Vmm
