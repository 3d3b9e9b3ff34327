/-
  One step of the machine.
-/
import Derived.Test.YtihbhbeaihdgnaaMXA
import Derived.Deep.RegionWith
namespace Go.Proofs.Vmm
open Go.RowKit Go.IntWalk Ytihbhbeaihdgnaa.Knd
open Ytihbhbeaihdgnaa (Wd wdA Fits inpV)
open Cde (In i0 ia kd cd Ins at6 six_of four_of two_of has_new1 okI okT below_drew vlI arV arN rgN)
open Vfy (w32)
open Ytihbhbeaihdgnaa.Spn (valZ ex mayB ar inB inB_iff wd wd_iff cons)
set_option linter.unusedVariables false

theorem cs_place {n : In} (h : Cde.csB n = true) (h3 : n.op = 3) : 0 ≤ n.k ∧ n.k ≤ 255 := by
  rw [Cde.csB, if_neg (by omega), if_neg (by omega), if_pos h3, Bool.and_eq_true, inB_iff] at h
  exact h.1
/-- step's boxes: the machine, the instruction, the window. -/
structure Sb (W V : World) (g : Nat) (cv nv wv : Array Value) : Prop where
  m : HasC V g 59 cv
  n : HasC V W.heap.size 51 nv
  w : HasC V (W.heap.size + 1) 29 wv
  lo : Below W.heap.size W V
theorem Sb.below {W V V' : World} {g : Nat} {cv nv wv : Array Value} (h : Sb W V g cv nv wv) (hb : Below V.heap.size V V') : Sb W V' g cv nv wv := ⟨h.m.below hb, h.n.below hb, h.w.below hb, bel h.lo hb⟩
theorem Sb.new {W : World} {g : Nat} {cv : Array Value} (h : HasC W g 59 cv) (nv wv : Array Value) : Sb W ((W.alloc (.cells nv 51)).alloc (.cells wv 29)) g cv nv wv :=
  ⟨(h.alloc _).alloc _, (HasC.new W 51 nv).alloc _, has_new1 W _ 29 wv, bel (bel1 _ _) (bel1 _ _)⟩

theorem Sb.name {W V : World} {g : Nat} {cv nv wv : Array Value} (h : Hid (Sb W V g cv nv wv)) : ∃ V2, V = V2 := ⟨V, rfl⟩
set_option maxRecDepth 100000 in
set_option maxHeartbeats 8000000 in
theorem vstep_any (f d out : Int) (m : In) (v : Wd) {g : Nat} {a pa ra : Option Addr} {n cap pl pc rn rc : Nat} {V : List Int} {x : Int} {W : World} (hM : HasC W g 59 (cd f d a n cap out)) (hP : Ints W pa pl pc v.ps) (hV : Regs W ra rn rc V)
    (hF : Fits f d v) (ho : okI m rn = true) (hx : vlI f d v V m = (x, 0)) (hw : w32 x) (hr : ∀ i, i < rn → w32 (V.getD i 0)) :
    Calls Try.prog 29 #[.pointer (some ⟨g, 0, none⟩), .agg (ia m), .agg (wdA v pa pl pc), .slice ra rn rc] W fun e W' => e = .returned (.int .i32 x) ∧ Below W.heap.size W W' := by
  have HS := hide (Sb.new hM (ia m) (wdA v pa pl pc))
  have hVl := hV.len
  have HP2 := hide (hP.later HS.out.lo)
  have HV2 := hide (hV.later HS.out.lo)
  clear hM hP hV
  obtain ⟨w1, w2⟩ := hw
  by_cases h1 : m.op = 1
  · have hk : m.k = x := by
      rw [vlI, if_pos h1] at hx
      exact congrArg Prod.fst hx
    have p1 : (m.op == 1) = true := by simpa using h1
    clear hx h1
    go_enter Try.func29, Try.ntmps29
    go_wp2
    go_ret
    exact ⟨rfl, HS.out.lo⟩
  have p1 : (m.op == 1) = false := by simpa using h1
  by_cases h2 : m.op = 2
  · have hk : inpV f d v m.k = x := by
      rw [vlI, if_neg h1, if_pos h2] at hx
      exact congrArg Prod.fst hx
    have HI := hide fun W => minput_any f d m.k v pa pl pc W
    rw [hk] at HI
    have p2 : (m.op == 2) = true := by simpa using h2
    clear hx h1 h2 hk
    go_enter Try.func29, Try.ntmps29
    go_wp2_with fail
    obtain ⟨W2, hW2⟩ : ∃ W2, (W.alloc (.cells (ia m) 51)).alloc (.cells (wdA v pa pl pc) 29) = W2 := ⟨_, rfl⟩
    rw [hW2] at HS ⊢
    clear hW2
    obtain ⟨m0, m1, m2, m3⟩ := four_of HS.out.m
    obtain ⟨y0, y1, y2, y3⟩ := four_of HS.out.w
    obtain ⟨f0, f1, f2, f3, f4, f5⟩ := six_of HS.out.n
    have r0 := cell_regrown m0
    have r1 := cell_regrown m1
    have r2 := cell_regrown y0
    have r3 := cell_regrown y1
    have r4 := cell_regrown y2
    have r5 := cell_regrown y3
    have r6 := cell_regrown f4
    refine wp_region_quiet_below Cde.mixed0 (by kernel_rfl) ?_
    repeat (go_big_quiet_step (fail))
    go_big_quiet_step ((go_at_call 46; exact Calls.regrown_of (HI.out _)))
    repeat (go_big_quiet_step (fail))
    refine wpQuiet_nil ?_
    intro V6 hw'
    obtain ⟨⟨dq, osq⟩, hw''⟩ := hw'
    have hb := below_regrown W2 dq osq
    simp only at hw''
    rw [← hw''] at hb
    have HB := hide (bel HS.out.lo hb)
    clear hw'' r0 r1 r2 r3 r4 r5 r6 hb
    go_wp2_with fail
    go_ret
    exact ⟨rfl, HB.out⟩
  have p2 : (m.op == 2) = false := by simpa using h2
  by_cases h3 : m.op = 3
  · obtain ⟨k0, k5⟩ := cs_place (Cde.ok_con ho) h3
    obtain ⟨q, hq⟩ : ∃ q : Nat, m.k = (q : Int) := ⟨m.k.toNat, by omega⟩
    rw [vlI, if_neg h1, if_neg h2, if_pos h3] at hx
    have hlp := HP2.out.len
    have hfl := Cde.fit_len hF
    rw [hlp] at hfl
    have hkc : ¬ Ytihbhbeaihdgnaa.Knd.countZ f d ≤ m.k := fun h => by rw [if_pos h] at hx; simp at hx
    rw [if_neg hkc, hq, Int.toNat_natCast] at hx
    have hql : q < pl := by omega
    have hx2 : v.ps.getD q 0 = x := congrArg Prod.fst hx
    obtain ⟨pb, po, rfl, -, hpat⟩ := HP2.out.at (by omega)
    have px := hpat q hql
    rw [hx2] at px
    have p3 : (m.op == 3) = true := by simpa using h3
    have i0 : (0 : Int) ≤ q := by omega
    have i1 : (q : Int) < pl := by omega
    obtain ⟨-, -, -, -, f4, -⟩ := six_of HS.out.n
    rw [hq] at f4
    obtain ⟨-, -, -, y3⟩ := four_of HS.out.w
    clear hx hx2 hpat hfl hlp hkc k0 k5 h1 h2 h3
    go_enter Try.func29, Try.ntmps29
    go_wp2_with fail
    go_ret
    exact ⟨rfl, HS.out.lo⟩
  have p3 : (m.op == 3) = false := by simpa using h3
  have hv : valZ m.op m.k m.s (arV V m) = (x, 0) := by rw [vlI, if_neg h1, if_neg h2, if_neg h3] at hx; exact hx
  obtain ⟨hmay, hex, -⟩ := val_ex hv
  obtain ⟨hlen, hc, -⟩ := may_parts hmay
  rw [Cde.arV_len] at hlen
  have HR := hide fun j (hj : j < arN m) => Cde.ok_reg ho (j := j) hj
  have HA := hide fun j (hj : j < arN m) => Cde.arV_at V m j hj
  have HG := hide fun j (hj : j < rn) => hr j hj
  have hr3 : arN m ≤ 3 := Cde.arN_le m
  have h1a : 1 ≤ ar m.op := by
    simp only [mayB, Bool.and_eq_true, decide_eq_true_eq] at hmay
    exact hmay.1.1.1
  clear hx hv hmay p1 p2 p3 h1 h2 h3 ho hr hF
  have h0r : 0 < rn := by have := HR.out 0 (by omega); omega
  obtain ⟨rb, ro, rfl, hrb, hat⟩ := HV2.out.at h0r
  rcases (show arN m = 1 ∨ arN m = 2 ∨ arN m = 3 by omega) with e | e | e
  · obtain ⟨op, ma, mb, mc, k, s⟩ := m
    dsimp only at hlen hc hex h1a
    rw [e] at hlen HR HA
    obtain ⟨g00, g01⟩ := HR.out 0 (by omega)
    change 0 ≤ ma at g00
    change ma.toNat < rn at g01
    obtain ⟨p, rfl⟩ : ∃ p : Nat, ma = (p : Int) := ⟨ma.toNat, by omega⟩
    rw [Int.toNat_natCast] at g01
    have t0 := hat p g01
    have b0 := HG.out p g01
    have e0 := HA.out 0 (by omega)
    rw [show (rgN ⟨op, (p : Int), mb, mc, k, s⟩ 0).toNat = p from Int.toNat_natCast _] at e0
    rw [e0] at hex
    rw [show (arV V ⟨op, (p : Int), mb, mc, k, s⟩).getD 1 0 = 0 from by rw [List.getD_eq_getElem?_getD, List.getElem?_eq_none (by rw [Cde.arV_len, e]; omega)]; rfl] at hex
    rw [show (arV V ⟨op, (p : Int), mb, mc, k, s⟩).getD 2 0 = 0 from by rw [List.getD_eq_getElem?_getD, List.getElem?_eq_none (by rw [Cde.arV_len, e]; omega)]; rfl] at hex
    generalize V.getD p 0 = A at *
    have i0 : (0 : Int) ≤ p := by omega
    have j0 : (p : Int) < rn := by omega
    have HO := hide fun w => vone_any ⟨op, (p : Int), mb, mc, k, s⟩ A x w (by dsimp only; omega) hc b0 ⟨w1, w2⟩ hex
    have ho := Ytihbhbeaihdgnaa.Spn.one_cases (show ar op = 1 by omega)
    clear hlen hc hex h1a HR HA HG hr3 e hat h0r g00 g01 e0 b0
    rcases ho with rfl | rfl | rfl | rfl | rfl | rfl | rfl | rfl
    all_goals
      go_enter Try.func29, Try.ntmps29
      go_wp2_with fail
      obtain ⟨W2, hW2⟩ := Sb.name HS
      rw [hW2] at HS ⊢
      rw [hW2] at t0
      clear hW2
      obtain ⟨f0, f1, f2, f3, f4, f5⟩ := six_of HS.out.n
      have r0 := cell_regrown f0
      have r1 := cell_regrown f1
      have r2 := cell_regrown f2
      have r3 := cell_regrown f3
      have r4 := cell_regrown f4
      have r5 := cell_regrown f5
      have y0 := cell_regrown t0
      refine wp_region_quiet_below Cde.mixed0 (by kernel_rfl) ?_
      repeat (go_big_quiet_step (fail))
      go_big_quiet_step ((go_at_call 47; exact Calls.regrown_of (HO.out _)))
      repeat (go_big_quiet_step (fail))
      refine wpQuiet_nil ?_
      intro V6 hw'
      obtain ⟨⟨dq, osq⟩, hw''⟩ := hw'
      have hb := below_regrown W2 dq osq
      simp only at hw''
      rw [← hw''] at hb
      have HB := hide (bel HS.out.lo hb)
      clear hw'' r0 r1 r2 r3 r4 r5 y0 hb
      go_wp2_with fail
      go_ret
      exact ⟨rfl, HB.out⟩
  · obtain ⟨op, ma, mb, mc, k, s⟩ := m
    dsimp only at hlen hc hex h1a
    rw [e] at hlen HR HA
    obtain ⟨g00, g01⟩ := HR.out 0 (by omega)
    change 0 ≤ ma at g00
    change ma.toNat < rn at g01
    obtain ⟨p, rfl⟩ : ∃ p : Nat, ma = (p : Int) := ⟨ma.toNat, by omega⟩
    rw [Int.toNat_natCast] at g01
    have t0 := hat p g01
    have b0 := HG.out p g01
    have e0 := HA.out 0 (by omega)
    obtain ⟨g10, g11⟩ := HR.out 1 (by omega)
    change 0 ≤ mb at g10
    change mb.toNat < rn at g11
    obtain ⟨q, rfl⟩ : ∃ q : Nat, mb = (q : Int) := ⟨mb.toNat, by omega⟩
    rw [Int.toNat_natCast] at g11
    have t1 := hat q g11
    have b1 := HG.out q g11
    have e1 := HA.out 1 (by omega)
    rw [show (rgN ⟨op, (p : Int), (q : Int), mc, k, s⟩ 0).toNat = p from Int.toNat_natCast _] at e0
    rw [e0] at hex
    rw [show (rgN ⟨op, (p : Int), (q : Int), mc, k, s⟩ 1).toNat = q from Int.toNat_natCast _] at e1
    rw [e1] at hex
    rw [show (arV V ⟨op, (p : Int), (q : Int), mc, k, s⟩).getD 2 0 = 0 from by rw [List.getD_eq_getElem?_getD, List.getElem?_eq_none (by rw [Cde.arV_len, e]; omega)]; rfl] at hex
    generalize V.getD p 0 = A at *
    generalize V.getD q 0 = B at *
    have i0 : (0 : Int) ≤ p := by omega
    have j0 : (p : Int) < rn := by omega
    have i1 : (0 : Int) ≤ q := by omega
    have j1 : (q : Int) < rn := by omega
    have HO := hide fun w => two_all (Ytihbhbeaihdgnaa.Spn.two_cases (show ar op = 2 by omega)) A B x w b0 b1 ⟨w1, w2⟩ (by rw [← Ytihbhbeaihdgnaa.Spn.ex_two op k s A B 0 (Ytihbhbeaihdgnaa.Spn.two_cases (show ar op = 2 by omega))]; exact hex)
    have ho := inB_iff.1 (Ytihbhbeaihdgnaa.Spn.two_cases (show ar op = 2 by omega))
    clear hlen hc hex h1a HR HA HG hr3 e hat h0r g00 g01 e0 b0 g10 g11 e1 b1
    rcases (show op = 8 ∨ op = 9 ∨ op = 10 ∨ op = 11 ∨ op = 12 ∨ op = 13 ∨ op = 14 ∨ op = 15 ∨ op = 16 ∨ op = 17 ∨ op = 18 ∨ op = 19 ∨ op = 20 ∨ op = 21 ∨ op = 22 ∨ op = 23 ∨ op = 24 ∨ op = 25 by omega) with rfl | rfl | rfl | rfl | rfl | rfl | rfl | rfl | rfl | rfl | rfl | rfl | rfl | rfl | rfl | rfl | rfl | rfl
    all_goals
      clear ho
      go_enter Try.func29, Try.ntmps29
      go_wp2_with fail
      obtain ⟨W2, hW2⟩ := Sb.name HS
      rw [hW2] at HS ⊢
      rw [hW2] at t0 t1
      clear hW2
      obtain ⟨f0, f1, f2, f3, f4, f5⟩ := six_of HS.out.n
      have r0 := cell_regrown f0
      have r1 := cell_regrown f1
      have r2 := cell_regrown f2
      have r3 := cell_regrown f3
      have r4 := cell_regrown f4
      have r5 := cell_regrown f5
      have y0 := cell_regrown t0
      have y1 := cell_regrown t1
      refine wp_region_quiet_below Cde.mixed0 (by kernel_rfl) ?_
      repeat (go_big_quiet_step (fail))
      go_big_quiet_step ((go_at_call 49; exact Calls.regrown_of (Cde.to_below (HO.out _))))
      repeat (go_big_quiet_step (fail))
      refine wpQuiet_nil ?_
      intro V6 hw'
      obtain ⟨⟨dq, osq⟩, hw''⟩ := hw'
      have hb := below_regrown W2 dq osq
      simp only at hw''
      rw [← hw''] at hb
      have HB := hide (bel HS.out.lo hb)
      clear hw'' r0 r1 r2 r3 r4 r5 y0 y1 hb
      go_wp2_with fail
      go_ret
      exact ⟨rfl, HB.out⟩
  · obtain ⟨op, ma, mb, mc, k, s⟩ := m
    dsimp only at hlen hc hex h1a
    rw [e] at hlen HR HA
    obtain ⟨g00, g01⟩ := HR.out 0 (by omega)
    change 0 ≤ ma at g00
    change ma.toNat < rn at g01
    obtain ⟨p, rfl⟩ : ∃ p : Nat, ma = (p : Int) := ⟨ma.toNat, by omega⟩
    rw [Int.toNat_natCast] at g01
    have t0 := hat p g01
    have b0 := HG.out p g01
    have e0 := HA.out 0 (by omega)
    obtain ⟨g10, g11⟩ := HR.out 1 (by omega)
    change 0 ≤ mb at g10
    change mb.toNat < rn at g11
    obtain ⟨q, rfl⟩ : ∃ q : Nat, mb = (q : Int) := ⟨mb.toNat, by omega⟩
    rw [Int.toNat_natCast] at g11
    have t1 := hat q g11
    have b1 := HG.out q g11
    have e1 := HA.out 1 (by omega)
    obtain ⟨g20, g21⟩ := HR.out 2 (by omega)
    change 0 ≤ mc at g20
    change mc.toNat < rn at g21
    obtain ⟨u, rfl⟩ : ∃ u : Nat, mc = (u : Int) := ⟨mc.toNat, by omega⟩
    rw [Int.toNat_natCast] at g21
    have t2 := hat u g21
    have b2 := HG.out u g21
    have e2 := HA.out 2 (by omega)
    rw [show (rgN ⟨op, (p : Int), (q : Int), (u : Int), k, s⟩ 0).toNat = p from Int.toNat_natCast _] at e0
    rw [e0] at hex
    rw [show (rgN ⟨op, (p : Int), (q : Int), (u : Int), k, s⟩ 1).toNat = q from Int.toNat_natCast _] at e1
    rw [e1] at hex
    rw [show (rgN ⟨op, (p : Int), (q : Int), (u : Int), k, s⟩ 2).toNat = u from Int.toNat_natCast _] at e2
    rw [e2] at hex
    generalize V.getD p 0 = A at *
    generalize V.getD q 0 = B at *
    generalize V.getD u 0 = C at *
    have i0 : (0 : Int) ≤ p := by omega
    have j0 : (p : Int) < rn := by omega
    have i1 : (0 : Int) ≤ q := by omega
    have j1 : (q : Int) < rn := by omega
    have i2 : (0 : Int) ≤ u := by omega
    have j2 : (u : Int) < rn := by omega
    have HO := hide fun w => vthree_any op k s A B C x w (Ytihbhbeaihdgnaa.Spn.three_cases (show ar op = 3 by omega)) b0 b1 b2 hex
    have ho := inB_iff.1 (Ytihbhbeaihdgnaa.Spn.three_cases (show ar op = 3 by omega))
    clear hlen hc hex h1a HR HA HG hr3 e hat h0r g00 g01 e0 b0 g10 g11 e1 b1 g20 g21 e2 b2
    rcases (show op = 26 ∨ op = 27 ∨ op = 28 by omega) with rfl | rfl | rfl
    all_goals
      clear ho
      go_enter Try.func29, Try.ntmps29
      go_wp2_with fail
      obtain ⟨W2, hW2⟩ := Sb.name HS
      rw [hW2] at HS ⊢
      rw [hW2] at t0 t1 t2
      clear hW2
      obtain ⟨f0, f1, f2, f3, f4, f5⟩ := six_of HS.out.n
      have r0 := cell_regrown f0
      have r1 := cell_regrown f1
      have r2 := cell_regrown f2
      have r3 := cell_regrown f3
      have r4 := cell_regrown f4
      have r5 := cell_regrown f5
      have y0 := cell_regrown t0
      have y1 := cell_regrown t1
      have y2 := cell_regrown t2
      refine wp_region_quiet_below Cde.mixed0 (by kernel_rfl) ?_
      repeat (go_big_quiet_step (fail))
      go_big_quiet_step ((go_at_call 48; exact Calls.regrown_of (Cde.to_below (HO.out _))))
      repeat (go_big_quiet_step (fail))
      refine wpQuiet_nil ?_
      intro V6 hw'
      obtain ⟨⟨dq, osq⟩, hw''⟩ := hw'
      have hb := below_regrown W2 dq osq
      simp only at hw''
      rw [← hw''] at hb
      have HB := hide (bel HS.out.lo hb)
      clear hw'' r0 r1 r2 r3 r4 r5 y0 y1 y2 hb
      go_wp2_with fail
      go_ret
      exact ⟨rfl, HB.out⟩

end Go.Proofs.Vmm
