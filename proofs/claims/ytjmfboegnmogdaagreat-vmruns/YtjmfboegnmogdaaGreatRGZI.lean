/-
  One step of the machine.
-/
import Derived.Test.YtjmfboegnmogdaaGreatRGZH
import Derived.Deep.RegionWith
namespace Go.Proofs.Vmm
open Go.RowKit Go.IntWalk YtjmfboegnmogdaaGreat.Knd
open YtjmfboegnmogdaaGreat (Wd wdA Fits inpV)
open Cde (In i0 ia kd cd Ins at6 six_of four_of two_of has_new1 okI okT below_drew vlI arV arN rgN)
open Vfy (w32)
open YtjmfboegnmogdaaGreat.Spn (valZ ex mayB ar inB inB_iff wd wd_iff cons)
set_option linter.unusedVariables false

theorem cs_place {n : In} (h : Cde.csB n = true) (h3 : n.op = 3) : 0 ≤ n.k ∧ n.k ≤ 255 := by
  rw [Cde.csB, if_neg (by omega), if_neg (by omega), if_pos h3, Bool.and_eq_true, inB_iff] at h
  exact h.1
/-- step's boxes: the machine, the instruction, the window. -/
structure Sb (W V : World) (g : Nat) (cv nv wv : Array Value) : Prop where
  m : HasC V g 66 cv
  n : HasC V W.heap.size 41 nv
  w : HasC V (W.heap.size + 1) 45 wv
  lo : Below W.heap.size W V
theorem Sb.below {W V V' : World} {g : Nat} {cv nv wv : Array Value} (h : Sb W V g cv nv wv) (hb : Below V.heap.size V V') : Sb W V' g cv nv wv := ⟨h.m.below hb, h.n.below hb, h.w.below hb, bel h.lo hb⟩
theorem Sb.new {W : World} {g : Nat} {cv : Array Value} (h : HasC W g 66 cv) (nv wv : Array Value) : Sb W ((W.alloc (.cells nv 41)).alloc (.cells wv 45)) g cv nv wv :=
  ⟨(h.alloc _).alloc _, (HasC.new W 41 nv).alloc _, has_new1 W _ 45 wv, bel (bel1 _ _) (bel1 _ _)⟩

theorem Sb.name {W V : World} {g : Nat} {cv nv wv : Array Value} (h : Hid (Sb W V g cv nv wv)) : ∃ V2, V = V2 := ⟨V, rfl⟩
set_option maxRecDepth 100000 in
set_option maxHeartbeats 8000000 in
theorem vstep_any (f d out : Int) (m : In) (v : Wd) {g : Nat} {a pa ra : Option Addr} {n cap pl pc rn rc : Nat} {V : List Int} {x : Int} {W : World} (hM : HasC W g 66 (cd f d a n cap out)) (hP : Ints W pa pl pc v.ps) (hV : Regs W ra rn rc V)
    (hF : Fits f d v) (ho : okI m rn = true) (hx : vlI f d v V m = (x, 0)) (hw : w32 x) (hr : ∀ i, i < rn → w32 (V.getD i 0)) :
    Calls Tryz.prog 70 #[.pointer (some ⟨g, 0, none⟩), .agg (ia m), .agg (wdA v pa pl pc), .slice ra rn rc] W fun e W' => e = .returned (.int .i32 x) ∧ Below W.heap.size W W' := by
  have HS := hide (Sb.new hM (ia m) (wdA v pa pl pc))
  have hVl := hV.len
  have HP2 := hide (hP.later HS.out.lo)
  have HV2 := hide (hV.later HS.out.lo)
  clear hM hP hV
  obtain ⟨w1, w2⟩ := hw
  by_cases h1 : m.op = 1
  · have hk : m.k = x := by
      rw [vlI, if_pos h1] at hx
      exact congrArg Prod.fst hx
    have p1 : (m.op == 1) = true := by simpa using h1
    clear hx h1
    go_enter Tryz.func70, Tryz.ntmps70
    go_wp2
    go_ret
    exact ⟨rfl, HS.out.lo⟩
  have p1 : (m.op == 1) = false := by simpa using h1
  by_cases h2 : m.op = 2
  · have hk : inpV f d v m.k = x := by
      rw [vlI, if_neg h1, if_pos h2] at hx
      exact congrArg Prod.fst hx
    have HI := hide fun W => minput_any f d m.k v pa pl pc W
    rw [hk] at HI
    have p2 : (m.op == 2) = true := by simpa using h2
    clear hx h1 h2 hk
    go_enter Tryz.func70, Tryz.ntmps70
    go_wp2_with fail
    obtain ⟨W2, hW2⟩ : ∃ W2, (W.alloc (.cells (ia m) 41)).alloc (.cells (wdA v pa pl pc) 45) = W2 := ⟨_, rfl⟩
    rw [hW2] at HS ⊢
    clear hW2
    obtain ⟨m0, m1, m2, m3⟩ := four_of HS.out.m
    obtain ⟨y0, y1, y2, y3⟩ := four_of HS.out.w
    obtain ⟨f0, f1, f2, f3, f4, f5⟩ := six_of HS.out.n
    have r0 := cell_regrown m0
    have r1 := cell_regrown m1
    have r2 := cell_regrown y0
    have r3 := cell_regrown y1
    have r4 := cell_regrown y2
    have r5 := cell_regrown y3
    have r6 := cell_regrown f4
    refine wp_region_quiet_below Cde.mixed0 (by kernel_rfl) ?_
    repeat (go_big_quiet_step (fail))
    go_big_quiet_step ((go_at_call 112; exact Calls.regrown_of (HI.out _)))
    repeat (go_big_quiet_step (fail))
    refine wpQuiet_nil ?_
    intro V6 hw'
    obtain ⟨⟨dq, osq⟩, hw''⟩ := hw'
    have hb := below_regrown W2 dq osq
    simp only at hw''
    rw [← hw''] at hb
    have HB := hide (bel HS.out.lo hb)
    clear hw'' r0 r1 r2 r3 r4 r5 r6 hb
    go_wp2_with fail
    go_ret
    exact ⟨rfl, HB.out⟩
  have p2 : (m.op == 2) = false := by simpa using h2
  by_cases h3 : m.op = 3
  · obtain ⟨k0, k5⟩ := cs_place (Cde.ok_con ho) h3
    obtain ⟨q, hq⟩ : ∃ q : Nat, m.k = (q : Int) := ⟨m.k.toNat, by omega⟩
    rw [vlI, if_neg h1, if_neg h2, if_pos h3] at hx
    have hlp := HP2.out.len
    have hfl := Cde.fit_len hF
    rw [hlp] at hfl
    have hkc : ¬ YtjmfboegnmogdaaGreat.Knd.countZ f d ≤ m.k := fun h => by rw [if_pos h] at hx; simp at hx
    rw [if_neg hkc, hq, Int.toNat_natCast] at hx
    have hql : q < pl := by omega
    have hx2 : v.ps.getD q 0 = x := congrArg Prod.fst hx
    obtain ⟨pb, po, rfl, -, hpat⟩ := HP2.out.at (by omega)
    have px := hpat q hql
    rw [hx2] at px
    have p3 : (m.op == 3) = true := by simpa using h3
    have i0 : (0 : Int) ≤ q := by omega
    have i1 : (q : Int) < pl := by omega
    obtain ⟨-, -, -, -, f4, -⟩ := six_of HS.out.n
    rw [hq] at f4
    obtain ⟨-, -, -, y3⟩ := four_of HS.out.w
    clear hx hx2 hpat hfl hlp hkc k0 k5 h1 h2 h3
    go_enter Tryz.func70, Tryz.ntmps70
    go_wp2_with fail
    go_ret
    exact ⟨rfl, HS.out.lo⟩
  have p3 : (m.op == 3) = false := by simpa using h3
  have hv : valZ m.op m.k m.s (arV V m) = (x, 0) := by rw [vlI, if_neg h1, if_neg h2, if_neg h3] at hx; exact hx
  obtain ⟨hmay, hex, -⟩ := val_ex hv
  obtain ⟨hlen, hc, -⟩ := may_parts hmay
  rw [Cde.arV_len] at hlen
  have HR := hide fun j (hj : j < arN m) => Cde.ok_reg ho (j := j) hj
  have HA := hide fun j (hj : j < arN m) => Cde.arV_at V m j hj
  have HG := hide fun j (hj : j < rn) => hr j hj
  have hr3 : arN m ≤ 3 := Cde.arN_le m
  have h1a : 1 ≤ ar m.op := by
    simp only [mayB, Bool.and_eq_true, decide_eq_true_eq] at hmay
    exact hmay.1.1.1
  clear hx hv hmay p1 p2 p3 h1 h2 h3 ho hr hF
  have h0r : 0 < rn := by have := HR.out 0 (by omega); omega
  obtain ⟨rb, ro, rfl, hrb, hat⟩ := HV2.out.at h0r
  rcases (show arN m = 1 ∨ arN m = 2 ∨ arN m = 3 by omega) with e | e | e
  · obtain ⟨op, ma, mb, mc, k, s⟩ := m
    dsimp only at hlen hc hex h1a
    rw [e] at hlen HR HA
    obtain ⟨g00, g01⟩ := HR.out 0 (by omega)
    change 0 ≤ ma at g00
    change ma.toNat < rn at g01
    obtain ⟨p, rfl⟩ : ∃ p : Nat, ma = (p : Int) := ⟨ma.toNat, by omega⟩
    rw [Int.toNat_natCast] at g01
    have t0 := hat p g01
    have b0 := HG.out p g01
    have e0 := HA.out 0 (by omega)
    rw [show (rgN ⟨op, (p : Int), mb, mc, k, s⟩ 0).toNat = p from Int.toNat_natCast _] at e0
    rw [e0] at hex
    rw [show (arV V ⟨op, (p : Int), mb, mc, k, s⟩).getD 1 0 = 0 from by rw [List.getD_eq_getElem?_getD, List.getElem?_eq_none (by rw [Cde.arV_len, e]; omega)]; rfl] at hex
    rw [show (arV V ⟨op, (p : Int), mb, mc, k, s⟩).getD 2 0 = 0 from by rw [List.getD_eq_getElem?_getD, List.getElem?_eq_none (by rw [Cde.arV_len, e]; omega)]; rfl] at hex
    generalize V.getD p 0 = A at *
    have i0 : (0 : Int) ≤ p := by omega
    have j0 : (p : Int) < rn := by omega
    have HO := hide fun w => vone_any ⟨op, (p : Int), mb, mc, k, s⟩ A x w (by dsimp only; omega) hc b0 ⟨w1, w2⟩ hex
    have ho := YtjmfboegnmogdaaGreat.Spn.one_cases (show ar op = 1 by omega)
    clear hlen hc hex h1a HR HA HG hr3 e hat h0r g00 g01 e0 b0
    rcases ho with rfl | rfl | rfl | rfl | rfl | rfl | rfl | rfl
    all_goals
      go_enter Tryz.func70, Tryz.ntmps70
      go_wp2_with fail
      obtain ⟨W2, hW2⟩ := Sb.name HS
      rw [hW2] at HS ⊢
      rw [hW2] at t0
      clear hW2
      obtain ⟨f0, f1, f2, f3, f4, f5⟩ := six_of HS.out.n
      have r0 := cell_regrown f0
      have r1 := cell_regrown f1
      have r2 := cell_regrown f2
      have r3 := cell_regrown f3
      have r4 := cell_regrown f4
      have r5 := cell_regrown f5
      have y0 := cell_regrown t0
      refine wp_region_quiet_below Cde.mixed0 (by kernel_rfl) ?_
      repeat (go_big_quiet_step (fail))
      go_big_quiet_step ((go_at_call 113; exact Calls.regrown_of (HO.out _)))
      repeat (go_big_quiet_step (fail))
      refine wpQuiet_nil ?_
      intro V6 hw'
      obtain ⟨⟨dq, osq⟩, hw''⟩ := hw'
      have hb := below_regrown W2 dq osq
      simp only at hw''
      rw [← hw''] at hb
      have HB := hide (bel HS.out.lo hb)
      clear hw'' r0 r1 r2 r3 r4 r5 y0 hb
      go_wp2_with fail
      go_ret
      exact ⟨rfl, HB.out⟩
  · obtain ⟨op, ma, mb, mc, k, s⟩ := m
    dsimp only at hlen hc hex h1a
    rw [e] at hlen HR HA
    obtain ⟨g00, g01⟩ := HR.out 0 (by omega)
    change 0 ≤ ma at g00
    change ma.toNat < rn at g01
    obtain ⟨p, rfl⟩ : ∃ p : Nat, ma = (p : Int) := ⟨ma.toNat, by omega⟩
    rw [Int.toNat_natCast] at g01
    have t0 := hat p g01
    have b0 := HG.out p g01
    have e0 := HA.out 0 (by omega)
    obtain ⟨g10, g11⟩ := HR.out 1 (by omega)
    change 0 ≤ mb at g10
    change mb.toNat < rn at g11
    obtain ⟨q, rfl⟩ : ∃ q : Nat, mb = (q : Int) := ⟨mb.toNat, by omega⟩
    rw [Int.toNat_natCast] at g11
    have t1 := hat q g11
    have b1 := HG.out q g11
    have e1 := HA.out 1 (by omega)
    rw [show (rgN ⟨op, (p : Int), (q : Int), mc, k, s⟩ 0).toNat = p from Int.toNat_natCast _] at e0
    rw [e0] at hex
    rw [show (rgN ⟨op, (p : Int), (q : Int), mc, k, s⟩ 1).toNat = q from Int.toNat_natCast _] at e1
    rw [e1] at hex
    rw [show (arV V ⟨op, (p : Int), (q : Int), mc, k, s⟩).getD 2 0 = 0 from by rw [List.getD_eq_getElem?_getD, List.getElem?_eq_none (by rw [Cde.arV_len, e]; omega)]; rfl] at hex
    generalize V.getD p 0 = A at *
    generalize V.getD q 0 = B at *
    have i0 : (0 : Int) ≤ p := by omega
    have j0 : (p : Int) < rn := by omega
    have i1 : (0 : Int) ≤ q := by omega
    have j1 : (q : Int) < rn := by omega
    have HO := hide fun w => two_all (YtjmfboegnmogdaaGreat.Spn.two_cases (show ar op = 2 by omega)) A B x w b0 b1 ⟨w1, w2⟩ (by rw [← YtjmfboegnmogdaaGreat.Spn.ex_two op k s A B 0 (YtjmfboegnmogdaaGreat.Spn.two_cases (show ar op = 2 by omega))]; exact hex)
    have ho := inB_iff.1 (YtjmfboegnmogdaaGreat.Spn.two_cases (show ar op = 2 by omega))
    clear hlen hc hex h1a HR HA HG hr3 e hat h0r g00 g01 e0 b0 g10 g11 e1 b1
    rcases (show op = 8 ∨ op = 9 ∨ op = 10 ∨ op = 11 ∨ op = 12 ∨ op = 13 ∨ op = 14 ∨ op = 15 ∨ op = 16 ∨ op = 17 ∨ op = 18 ∨ op = 19 ∨ op = 20 ∨ op = 21 ∨ op = 22 ∨ op = 23 ∨ op = 24 ∨ op = 25 by omega) with rfl | rfl | rfl | rfl | rfl | rfl | rfl | rfl | rfl | rfl | rfl | rfl | rfl | rfl | rfl | rfl | rfl | rfl
    all_goals
      clear ho
      go_enter Tryz.func70, Tryz.ntmps70
      go_wp2_with fail
      obtain ⟨W2, hW2⟩ := Sb.name HS
      rw [hW2] at HS ⊢
      rw [hW2] at t0 t1
      clear hW2
      obtain ⟨f0, f1, f2, f3, f4, f5⟩ := six_of HS.out.n
      have r0 := cell_regrown f0
      have r1 := cell_regrown f1
      have r2 := cell_regrown f2
      have r3 := cell_regrown f3
      have r4 := cell_regrown f4
      have r5 := cell_regrown f5
      have y0 := cell_regrown t0
      have y1 := cell_regrown t1
      refine wp_region_quiet_below Cde.mixed0 (by kernel_rfl) ?_
      repeat (go_big_quiet_step (fail))
      go_big_quiet_step ((go_at_call 115; exact Calls.regrown_of (Cde.to_below (HO.out _))))
      repeat (go_big_quiet_step (fail))
      refine wpQuiet_nil ?_
      intro V6 hw'
      obtain ⟨⟨dq, osq⟩, hw''⟩ := hw'
      have hb := below_regrown W2 dq osq
      simp only at hw''
      rw [← hw''] at hb
      have HB := hide (bel HS.out.lo hb)
      clear hw'' r0 r1 r2 r3 r4 r5 y0 y1 hb
      go_wp2_with fail
      go_ret
      exact ⟨rfl, HB.out⟩
  · obtain ⟨op, ma, mb, mc, k, s⟩ := m
    dsimp only at hlen hc hex h1a
    rw [e] at hlen HR HA
    obtain ⟨g00, g01⟩ := HR.out 0 (by omega)
    change 0 ≤ ma at g00
    change ma.toNat < rn at g01
    obtain ⟨p, rfl⟩ : ∃ p : Nat, ma = (p : Int) := ⟨ma.toNat, by omega⟩
    rw [Int.toNat_natCast] at g01
    have t0 := hat p g01
    have b0 := HG.out p g01
    have e0 := HA.out 0 (by omega)
    obtain ⟨g10, g11⟩ := HR.out 1 (by omega)
    change 0 ≤ mb at g10
    change mb.toNat < rn at g11
    obtain ⟨q, rfl⟩ : ∃ q : Nat, mb = (q : Int) := ⟨mb.toNat, by omega⟩
    rw [Int.toNat_natCast] at g11
    have t1 := hat q g11
    have b1 := HG.out q g11
    have e1 := HA.out 1 (by omega)
    obtain ⟨g20, g21⟩ := HR.out 2 (by omega)
    change 0 ≤ mc at g20
    change mc.toNat < rn at g21
    obtain ⟨u, rfl⟩ : ∃ u : Nat, mc = (u : Int) := ⟨mc.toNat, by omega⟩
    rw [Int.toNat_natCast] at g21
    have t2 := hat u g21
    have b2 := HG.out u g21
    have e2 := HA.out 2 (by omega)
    rw [show (rgN ⟨op, (p : Int), (q : Int), (u : Int), k, s⟩ 0).toNat = p from Int.toNat_natCast _] at e0
    rw [e0] at hex
    rw [show (rgN ⟨op, (p : Int), (q : Int), (u : Int), k, s⟩ 1).toNat = q from Int.toNat_natCast _] at e1
    rw [e1] at hex
    rw [show (rgN ⟨op, (p : Int), (q : Int), (u : Int), k, s⟩ 2).toNat = u from Int.toNat_natCast _] at e2
    rw [e2] at hex
    generalize V.getD p 0 = A at *
    generalize V.getD q 0 = B at *
    generalize V.getD u 0 = C at *
    have i0 : (0 : Int) ≤ p := by omega
    have j0 : (p : Int) < rn := by omega
    have i1 : (0 : Int) ≤ q := by omega
    have j1 : (q : Int) < rn := by omega
    have i2 : (0 : Int) ≤ u := by omega
    have j2 : (u : Int) < rn := by omega
    have HO := hide fun w => vthree_any op k s A B C x w (YtjmfboegnmogdaaGreat.Spn.three_cases (show ar op = 3 by omega)) b0 b1 b2 hex
    have ho := inB_iff.1 (YtjmfboegnmogdaaGreat.Spn.three_cases (show ar op = 3 by omega))
    clear hlen hc hex h1a HR HA HG hr3 e hat h0r g00 g01 e0 b0 g10 g11 e1 b1 g20 g21 e2 b2
    rcases (show op = 26 ∨ op = 27 ∨ op = 28 by omega) with rfl | rfl | rfl
    all_goals
      clear ho
      go_enter Tryz.func70, Tryz.ntmps70
      go_wp2_with fail
      obtain ⟨W2, hW2⟩ := Sb.name HS
      rw [hW2] at HS ⊢
      rw [hW2] at t0 t1 t2
      clear hW2
      obtain ⟨f0, f1, f2, f3, f4, f5⟩ := six_of HS.out.n
      have r0 := cell_regrown f0
      have r1 := cell_regrown f1
      have r2 := cell_regrown f2
      have r3 := cell_regrown f3
      have r4 := cell_regrown f4
      have r5 := cell_regrown f5
      have y0 := cell_regrown t0
      have y1 := cell_regrown t1
      have y2 := cell_regrown t2
      refine wp_region_quiet_below Cde.mixed0 (by kernel_rfl) ?_
      repeat (go_big_quiet_step (fail))
      go_big_quiet_step ((go_at_call 114; exact Calls.regrown_of (Cde.to_below (HO.out _))))
      repeat (go_big_quiet_step (fail))
      refine wpQuiet_nil ?_
      intro V6 hw'
      obtain ⟨⟨dq, osq⟩, hw''⟩ := hw'
      have hb := below_regrown W2 dq osq
      simp only at hw''
      rw [← hw''] at hb
      have HB := hide (bel HS.out.lo hb)
      clear hw'' r0 r1 r2 r3 r4 r5 y0 y1 y2 hb
      go_wp2_with fail
      go_ret
      exact ⟨rfl, HB.out⟩

end Go.Proofs.Vmm

/-
  run: all registers; Run, Trace and New.
-/
namespace Go.Proofs.Vmm
open Go.RowKit Go.IntWalk YtjmfboegnmogdaaGreat.Knd
open YtjmfboegnmogdaaGreat (Wd wdA Fits inpV)
open Cde (In i0 ia kd cd Ins is6 at6 six_of four_of two_of has_new1 okI okT okT_at below_drew take_snoc vlI vlF vlF_snoc vlS vaZ TwP mc_parts)
open Vfy (vfE w32 vlF_in vlI_in Inn vf_parts vf_holds va_unfit)
set_option linter.unusedVariables false

theorem run_in {f d out : Int} {L : List In} {v : Wd} (h : vfE f d L out = 0) (hF : Fits f d v) {k : Nat} (hk : k ≤ L.length) : ∃ D, vlF f d v (L.take k) = (0, D) ∧ D.length = k ∧ ∀ i, i < k → w32 (D.getD i 0) := by
  obtain ⟨m, ha, ⟨S, hS, hl, hs⟩, -, -, -⟩ := vf_parts h
  obtain ⟨hm, -, -, -, -, hok⟩ := mc_parts m
  obtain ⟨V, S', h1, h2, h3⟩ := vlF_in hm hF hok ha (by rw [hS]) k hk
  have hl2 : S'.length = k := by
    have := Vfy.sgF_len f d L k hk
    rw [h2] at this
    exact this rfl
  exact ⟨V, h1, by rw [h3.1, hl2], fun i hi => (h3.2 i (by omega)).2.2⟩
theorem run_at {f d out : Int} {L : List In} {v : Wd} (h : vfE f d L out = 0) (hF : Fits f d v) {k : Nat} (hk : k < L.length) {D : List Int} (hD : vlF f d v (L.take k) = (0, D)) :
    D.length = k ∧ (∀ i, i < k → w32 (D.getD i 0)) ∧ okI (L.getD k i0) k = true ∧ ∃ x, vlI f d v D (L.getD k i0) = (x, 0) ∧ w32 x ∧ vlF f d v (L.take (k + 1)) = (0, D ++ [x]) := by
  obtain ⟨D', h1, h2, h3⟩ := run_in h hF (Nat.le_of_lt hk)
  rw [hD] at h1
  cases h1
  obtain ⟨E, g1, g2, g3⟩ := run_in h hF (show k + 1 ≤ L.length from hk)
  obtain ⟨m, -, -, -, -, -⟩ := vf_parts h
  obtain ⟨-, -, -, -, -, hok⟩ := mc_parts m
  have e := g1
  rw [take_snoc i0 hk, vlF_snoc, hD, vlS, if_pos rfl] at e
  by_cases hz : (vlI f d v D (L.getD k i0)).2 = 0
  · rw [if_pos hz] at e
    have e2 : D ++ [(vlI f d v D (L.getD k i0)).1] = E := congrArg Prod.snd e
    refine ⟨h2, h3, okT_at hok hk, (vlI f d v D (L.getD k i0)).1, Prod.ext rfl hz, ?_, by rw [g1, ← e2]⟩
    have := g3 k (by omega)
    rw [← e2, List.getD_eq_getElem?_getD, List.getElem?_append_right (by omega), h2, Nat.sub_self] at this
    exact this
  · rw [if_neg hz] at e
    exact absurd (congrArg Prod.fst e) hz

set_option maxRecDepth 100000 in
set_option maxHeartbeats 8000000 in
theorem mrun_any {f d out : Int} (v : Wd) {lo g : Nat} {a pa : Option Addr} {n cap pl pc : Nat} {L : List In} {W : World} (hM : Mc W lo g f d L out a n cap) (hP : Ints W pa pl pc v.ps) (h : vfE f d L out = 0) :
    Calls Tryz.prog 39 #[.pointer (some ⟨g, 0, none⟩), .agg (wdA v pa pl pc)] W (RwP W (vaZ f d v L out)) := by
  have hb1 := bel1 W (.cells (wdA v pa pl pc) 45)
  have HM0 := hide (hM.later hb1)
  have HW0 := hide (HasC.new W 45 (wdA v pa pl pc))
  have HB0 := hide hb1
  have HPI := hide hP
  have HLn := hide hM.ins.len
  have HF := hide fun w h => fits_any f d v.x v.y v.c pa pl pc v.ps w h
  obtain ⟨mc, -⟩ := vf_parts h
  obtain ⟨-, m1, m2, -, -, -⟩ := mc_parts mc
  rw [HLn.out] at m1 m2
  clear hb1 hM hP
  rcases YtjmfboegnmogdaaGreat.fitE_cases f d v with ⟨hF, h1⟩ | ⟨hF, h1⟩
  · rw [h1] at HF
    rw [show vaZ f d v L out = vlF f d v L by rw [vaZ, if_pos mc, if_pos hF]]
    have HAt := hide fun (k : Nat) (hk : k < L.length) (D : List Int) hD => run_at h hF hk (D := D) hD
    have HFt := hide hF
    have hmk := fun w => make_32 n (by omega) w
    clear mc h h1 hF
    go_enter Tryz.func39, Tryz.ntmps39
    go_wp2_with fail
    obtain ⟨W1, hW1⟩ : ∃ W1, W.alloc (.cells (wdA v pa pl pc) 45) = W1 := ⟨_, rfl⟩
    rw [hW1] at HM0 HW0 HB0 ⊢
    clear hW1
    obtain ⟨c0, c1, c2, c3⟩ := four_of HM0.out.b
    obtain ⟨y0, y1, y2, y3⟩ := four_of HW0.out
    have r0 := cell_regrown c0
    have r1 := cell_regrown c1
    have r2 := cell_regrown y0
    have r3 := cell_regrown y1
    have r4 := cell_regrown y2
    have r5 := cell_regrown y3
    have HFi := hide fun (V : World) (hb : Below W1.heap.size W1 V) => HF.out V (HPI.out.later (bel HB0.out hb))
    refine wp_region_quiet_below Cde.mixed0 (by kernel_rfl) ?_
    repeat (go_big_quiet_step (fail))
    go_big_quiet_step ((go_at_call 66; exact Calls.regrown_of (HFi.out _ (below_regrown _ _ _))))
    repeat (go_big_quiet_step (fail))
    refine wpQuiet_nil ?_
    intro V1 hw'
    obtain ⟨⟨dq, osq⟩, hw''⟩ := hw'
    have hb := below_regrown W1 dq osq
    simp only at hw''
    rw [← hw''] at hb
    have HM1 := hide (HM0.out.later hb)
    have HW1 := hide (HW0.out.below hb)
    have HB1 := hide (bel HB0.out hb)
    clear hw'' hb r0 r1 r2 r3 r4 r5 c0 c1 c2 c3 y0 y1 y2 y3 HFi HM0 HW0 HB0 HF
    obtain ⟨c0, c1, c2, c3⟩ := four_of HM1.out.b
    obtain ⟨V2, hmk2, hL2⟩ := hmk V1
    have HM2 := hide (HM1.out.later hL2.bel)
    have HW2 := hide (HW1.out.below hL2.bel)
    have HB2 := hide (bel HB1.out hL2.bel)
    have HL2 := hide hL2
    have HS2 := hide (show W.heap.size ≤ V1.heap.size from HB1.out.size)
    obtain ⟨-, -, q2, -⟩ := four_of HM2.out.b
    clear hmk hL2
    go_wp2_with fail
    clear hmk2 c0 c1 c2 c3 q2
    go_loopw [7, 35] (fun vv i wr => ∃ (k : Nat) (D : List Int), k ≤ n ∧ i = .int .i64 k ∧ Hid (vlF f d v (L.take k) = (0, D)) ∧ Hid (D.length = k) ∧ Hid (L32 V1 wr vv D)) (fun _ i _ => n - (intOf i).toNat)
    case atStart => exact ⟨0, [], Nat.zero_le _, rfl, hide rfl, hide rfl, HL2⟩
    case round =>
      obtain ⟨k, D, hk, rfl, HD, HDl, HE⟩ := hrel
      rename World => V
      have HMv := hide (HM1.out.later HE.out.bel)
      have HWv := hide (HW1.out.below HE.out.bel)
      have HBv := hide (bel HB1.out HE.out.bel)
      clear HM2 HW2 HB2 HL2
      by_cases hlt : k < n
      · obtain ⟨b, off, rfl, -, hat⟩ := HMv.out.ins.at (by omega)
        obtain ⟨e0, e1, e2, e3, e4, e5⟩ := hat k hlt
        obtain ⟨ra, rc, rfl, hR⟩ := HE.out.regs
        rw [HDl.out] at hR
        obtain ⟨-, h32, hok, x, hx, hwx, hS⟩ := HAt.out k (by rw [HLn.out]; exact hlt) D HD.out
        have hi0 : (0 : Int) ≤ k := by omega
        have hi1 : (k : Int) < n := by omega
        generalize L.getD k i0 = m at *
        have hb := bel1 V (.cells (ia m) 41)
        have HM5 := hide (HMv.out.later hb)
        have HW5 := hide (HWv.out.below hb)
        have HE5 := hide (HE.out.later hb)
        have HB5 := hide (bel HBv.out hb)
        have HSt := hide (vstep_any f d out m v HM5.out.b (HPI.out.later HB5.out) (hR.later hb) HFt.out hok hx hwx h32)
        have HS := hide hS
        have HJ : Hid (D.length ≤ 2000000) := hide (by rw [HDl.out]; omega)
        obtain ⟨y0, y1, y2, y3⟩ := four_of HWv.out
        have hz1 := HWv.out.lt
        rw [HDl.out]
        clear hb hat hR h32 hok hx hwx hS
        go_wp2_with fail
        refine HSt.out.mono ?_
        rintro e V6 ⟨rfl, hb⟩
        have HE6 := hide (HE5.out.later hb)
        clear hb e0 e1 e2 e3 e4 e5 y0 y1 y2 y3 HSt
        go_wp2_with (at_builtin; refine list_32 (w := V1) (L := D) rfl _ _ rfl (by rw [HDl.out]; rfl) (HE6.out.later (bel1 _ _)) _ x rfl (HasC.new _ _ _) HJ.out ?_; intro g2 cap2 w2 HE2; rw [HDl.out] at HE2 ⊢)
        go_roundw
        case rel => exact ⟨k + 1, D ++ [x], by omega, by go_num, HS, hide (by simp [HDl.out]), hide HE2⟩
        case measure => simp [intOf]; omega
      · obtain rfl : k = n := by omega
        have hD := HD.out
        rw [List.take_of_length_le (by rw [HLn.out]; exact Nat.le_refl _)] at hD
        have HD2 := hide hD
        obtain ⟨ra, rc, rfl, -⟩ := HE.out.regs
        clear hD
        go_wp2_with fail
        exact bodyPost_ret (v := .tuple #[.slice ra D.length rc, .int .i64 0]) (by simp [results, Tryz.results39, go_sem]) rfl (by rw [HD2.out]; exact ⟨ra, rc, rfl, Cde.own_mono HE.out.a HS2.out, HBv.out⟩)
  · rw [h1] at HF
    rw [show vaZ f d v L out = (1, []) by rw [vaZ, if_pos mc, if_neg hF]]
    clear mc h h1 hF
    go_enter Tryz.func39, Tryz.ntmps39
    go_wp2_with fail
    obtain ⟨W1, hW1⟩ : ∃ W1, W.alloc (.cells (wdA v pa pl pc) 45) = W1 := ⟨_, rfl⟩
    rw [hW1] at HM0 HW0 HB0 ⊢
    clear hW1
    obtain ⟨c0, c1, c2, c3⟩ := four_of HM0.out.b
    obtain ⟨y0, y1, y2, y3⟩ := four_of HW0.out
    have r0 := cell_regrown c0
    have r1 := cell_regrown c1
    have r2 := cell_regrown y0
    have r3 := cell_regrown y1
    have r4 := cell_regrown y2
    have r5 := cell_regrown y3
    have HFi := hide fun (V : World) (hb : Below W1.heap.size W1 V) => HF.out V (HPI.out.later (bel HB0.out hb))
    refine wp_region_quiet_below Cde.mixed0 (by kernel_rfl) ?_
    repeat (go_big_quiet_step (fail))
    go_big_quiet_step ((go_at_call 66; exact Calls.regrown_of (HFi.out _ (below_regrown _ _ _))))
    repeat (go_big_quiet_step (fail))
    refine wpQuiet_nil ?_
    intro V1 hw'
    obtain ⟨⟨dq, osq⟩, hw''⟩ := hw'
    have hb := below_regrown W1 dq osq
    simp only at hw''
    rw [← hw''] at hb
    have HB1 := hide (bel HB0.out hb)
    clear hw'' hb r0 r1 r2 r3 r4 r5 c0 c1 c2 c3 y0 y1 y2 y3 HFi HM0 HW0 HB0 HF
    go_wp2_with fail
    exact bodyPost_ret (v := .tuple #[.slice none 0 0, .int .i64 1]) (by simp [results, Tryz.results39, go_sem]) rfl (RwP.no HB1.out)
theorem mrun_nil (v : Wd) (pa : Option Addr) (pl pc : Nat) (W : World) :
    Calls Tryz.prog 39 #[.pointer none, .agg (wdA v pa pl pc)] W (RwP W (1, [])) := by
  have HB0 := hide (bel1 W (.cells (wdA v pa pl pc) 45))
  go_enter Tryz.func39, Tryz.ntmps39
  go_wp2_with fail
  exact bodyPost_ret (v := .tuple #[.slice none 0 0, .int .i64 1]) (by simp [results, Tryz.results39, go_sem]) rfl (RwP.no HB0.out)

end Go.Proofs.Vmm

/-
  slices.Clone of instructions.
-/
namespace Go.Proofs.Vmm
open Go.RowKit Go.IntWalk YtjmfboegnmogdaaGreat.Knd
open Cde (In Ins is6 ia i0)
set_option linter.unusedVariables false

theorem infoI : (Tryz.prog.info? 41).map (fun i => (i.zero, i.size, i.bytes)) = some (some (.agg (ia i0)), 6, 48) := by kernel_rfl
theorem bytes_no {w : World} {n c : Nat} {L : List In} (h : Ins w none n c L) : n = 0 ∧ c = 0 ∧ L = [] := by
  have h1 := h.nil rfl
  have h2 := h.le
  have h3 := h.len
  exact ⟨by omega, h1, List.eq_nil_of_length_eq_zero (by omega)⟩

set_option maxRecDepth 100000 in
set_option maxHeartbeats 2000000 in
theorem fclone_any {a : Option Addr} {n c : Nat} {L : List In} {w : World} (hb : Ins w a n c L) (hn : n ≤ 2000000) (hn0 : 0 < n) :
    Calls Tryz.prog 18 #[.slice a n c] w fun e w' => ∃ a' c', e = .returned (.slice a' n c') ∧ w'.ownsRow w.heap.size 41 6 (.slice a' n c') n (is6 L) ∧ Below w.heap.size w w' := by
  obtain ⟨i0', hi, hz0, hz1, hz2⟩ := info_parts infoI
  have heq : ∀ (w : World) (a : Option Addr) (n c : Nat), (binOp .eql 24 (.slice a n c) (.slice none 0 0)).run Tryz.prog w = .ok (.bool a.isNone) w := fun w a n c => Lib.run_eql_slice_nil w 24 41 a n c 0 0 Tryz.underlying24
  cases a with
  | none =>
    obtain ⟨rfl, -, -⟩ := bytes_no hb
    omega
  | some ad =>
    have hl : (is6 L).length = n * 6 := by rw [Cde.is6_len, hb.len]
    have hbel : Below w.heap.size w (w.alloc (.cells #[] 41)) := bel1 _ _
    have HBel := hide hbel
    have HN := hide ((hb.later hbel).news ad rfl)
    have HO : Hid ((w.alloc (.cells #[] 41)).ownsRow w.heap.size 41 6 (.slice (some ⟨w.heap.size, 0, none⟩) 0 0) 0 []) := hide ⟨rfl, .inr ⟨w.heap.size, 0, #[], rfl, Nat.le_refl _, heap_alloc_new w _, Nat.le_refl _, Nat.zero_le _, rfl, rfl⟩⟩
    have HL := hide hl
    clear hb hbel hl
    go_enter Tryz.func18, Tryz.ntmps18
    go_wp2_with (at_builtin; refine wpList_append_lies _ rfl _ _ 24 rfl w.heap.size 41 i0' _ 6 48 Tryz.underlying24 hi hz0 hz1 hz2 rfl (by omega) (.slice (some ⟨w.heap.size, 0, none⟩) 0 0) 0 [] rfl HO.out ad n c (is6 L) rfl HL.out HN.out (Cde.is6_one L) hn0 (by unfold maxLen; omega) (by omega) (by simp) _ rfl ?_; intro g cap w2 hown hgr hat hlt)
    rw [Nat.zero_add, List.nil_append] at hown
    have HO2 := hide hown
    have HB2 := hide (HBel.out.grown hgr HBel.out.size (fun k h => by cases h; exact Nat.le_refl _))
    clear hown hgr hat hlt
    go_wp2_with fail
    go_ret
    exact ⟨_, _, rfl, HO2.out, HB2.out⟩

end Go.Proofs.Vmm
