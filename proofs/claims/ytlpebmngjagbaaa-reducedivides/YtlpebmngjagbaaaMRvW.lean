/-
  ReduceDivides' walk.
-/
import Derived.Test.YtlpebmngjagbaaaMRgW
import Derived.Test.YtlpebmngjagbaaaMRE
import Derived.Test.YtlpebmngjagbaaaMKnRef
import Derived.Test.YtlpebmngjagbaaaMCdC
namespace Go.Proofs.Rdc
open Go.RowKit Go.IntWalk Ytlpebmngjagbaaa.Knd
open Ytlpebmngjagbaaa (Wd wdA Fits)
open Cde (In i0 ia kd cd Ins is6 four_of two_of vaZ TwP zA below_drew)
open Vfy (vfE w32)
set_option linter.unusedVariables false

/-- The law's boxes: the code, the window, its samples. -/
structure Dq (W V : World) (L : List In) (g0 g1 g2 gp : Nat) (cv wv : Array Value) (n : Nat) (ps : List Int) : Prop where
  i : Ins V (some ⟨g0, 0, none⟩) n n L
  c : HasC V g1 36 cv
  w : HasC V g2 39 wv
  p : HasC V gp 3 (zA ps)
  lo : Below W.heap.size W V
theorem Dq.below {W V V' : World} {L : List In} {g0 g1 g2 gp : Nat} {cv wv : Array Value} {n : Nat} {ps : List Int} (h : Dq W V L g0 g1 g2 gp cv wv n ps) (hb : Below V.heap.size V V') : Dq W V' L g0 g1 g2 gp cv wv n ps := ⟨h.i.later hb, h.c.below hb, h.w.below hb, h.p.below hb, bel h.lo hb⟩

theorem tm_w {x d : Int} (hx : w32 x) : w32 (x.tmod d) := by
  obtain ⟨h1, h2⟩ := hx
  have h := Int.natAbs_tmod x d
  have h3 := Nat.mod_le x.natAbs d.natAbs
  rw [← h] at h3
  by_cases h0 : 0 ≤ x
  · have := Int.tmod_nonneg d h0
    exact ⟨by omega, by omega⟩
  · have h4 := Int.tmod_nonneg d (show 0 ≤ -x by omega)
    rw [Int.neg_tmod] at h4
    exact ⟨by omega, by omega⟩
set_option maxRecDepth 100000 in
set_option maxHeartbeats 8000000 in
theorem rdiv_11 (x d : Int) {W : World} (hx : -2147483648 ≤ x ∧ x ≤ 2147483647) (hd : -2147483648 ≤ d ∧ d ≤ 2147483647) (h0 : d ≠ 0) (h1 : d ≠ -1) :
    Calls Try.prog 6 #[.int .i32 x, .int .i32 d, .bool false] W fun e w' => e = .returned (.bool true) ∧ Below W.heap.size W w' := by
  have HA := hide fun V => uawake_any V
  have HCo := hide fun w => rcount_any 1 16 w
  rw [show countZ 1 16 = 31 by decide] at HCo
  have hmk : ∀ w : World, (Instr.makeSlice 37 (.int .i64 31) (.int .i64 31)).run Try.prog w = .ok (.slice (some ⟨w.heap.size, 0, none⟩) 31 31) (w.alloc (.cells (zA (List.replicate 31 0)) 3)) := Cde.make_z 31 (by omega)
  obtain ⟨Z31, hZ31⟩ : ∃ Z : List Int, List.replicate 31 0 = Z := ⟨_, rfl⟩
  rw [hZ31] at hmk
  have HZ31 := hide hZ31
  clear hZ31
  obtain ⟨U, u1, u2, u3, u4, u5⟩ := dv_all (op := 11) (.inl rfl) hd hx h0 h1
  rw [show (if (11 : Int) = 11 then x.tdiv d else x.tmod d) = x.tdiv d from rfl] at u5
  obtain ⟨m, hm⟩ : ∃ m, (rxL 1 16 (dvC 11 d) 7).length = m := ⟨_, rfl⟩
  have HRe := hide fun (V : World) (a : Option Addr) (h : Ins V a 8 8 (dvC 11 d)) => ureduce_ok 1 16 7 h (dvc_taken (.inl rfl) hd h0 h1) hm
  have HVa := hide fun (V : World) (a p : Option Addr) (c : Nat) (h : Ins V a m c (rxL 1 16 (dvC 11 d) 7)) (hp : Ints V p 31 31 (dvPs (x / 65536) (x % 65536 - 32768))) => Cde.cvalues_any 1 16 (rxO 1 16 (dvC 11 d) 7) ⟨0, 0, 0, dvPs (x / 65536) (x % 65536 - 32768)⟩ h hp
  rw [u1] at HVa
  rw [hm] at u2 u4
  generalize rxL 1 16 (dvC 11 d) 7 = I at *
  generalize rxO 1 16 (dvC 11 d) 7 = u at *
  obtain ⟨z, hz⟩ : ∃ z, x.tdiv d = z := ⟨_, rfl⟩
  have HU2 := hide u2
  have HU4 := hide u4
  have HU5 := hide u5
  have HU3 := hide u3
  obtain ⟨x1, x2⟩ := hx
  obtain ⟨d1, d2⟩ := hd
  have q0 : (d == 0) = false := by simpa using h0
  have q1 : (d == -1) = false := by simpa using h1
  have hl16 := low_16 x
  obtain ⟨A, hA⟩ : ∃ A : Int, x / 65536 = A := ⟨_, rfl⟩
  obtain ⟨B, hB⟩ : ∃ B : Int, x % 65536 = B := ⟨_, rfl⟩
  have b1 : 0 ≤ B ∧ B < 65536 := by omega
  rw [hB] at hl16
  rw [hA, hB] at HVa
  clear u1 u2 u3 u4 u5 hm
  have hzb : -2147483648 ≤ z ∧ z ≤ 2147483647 := by rw [← hz]; exact (dv_val ⟨x1, x2⟩ ⟨d1, d2⟩ h0 h1).2
  have hwz : wrap64 z = z := wrap64_in _ ⟨by omega, by omega⟩
  have hs16 : x / 2 ^ 16 = A := by rw [← hA]; rfl
  clear h1
  go_enter Try.func6, Try.ntmps6
  go_wp2_with fail
  refine (HA.out _).mono ?_
  rintro e V1 ⟨rfl, hb⟩
  have HB1 := hide hb
  clear hb
  have HX : Hid (Ins ((V1.alloc (.cells (is6 (dvC 11 d)).toArray 53)).alloc (.cells (cd 1 16 (some ⟨V1.heap.size, 0, none⟩) 8 8 7) 36)) (some ⟨V1.heap.size, 0, none⟩) 8 8 (dvC 11 d) ∧ HasC ((V1.alloc (.cells (is6 (dvC 11 d)).toArray 53)).alloc (.cells (cd 1 16 (some ⟨V1.heap.size, 0, none⟩) 8 8 7) 36)) (V1.heap.size + 1) 36 (cd 1 16 (some ⟨V1.heap.size, 0, none⟩) 8 8 7) ∧ Below W.heap.size W ((V1.alloc (.cells (is6 (dvC 11 d)).toArray 53)).alloc (.cells (cd 1 16 (some ⟨V1.heap.size, 0, none⟩) 8 8 7) 36))) :=
    hide ⟨(Cde.has_ins (L := dvC 11 d) (HasC.new V1 53 (is6 (dvC 11 d)).toArray) (by simp [dvC, dvP])).later (bel1 _ _), Cde.has_new1 V1 _ 36 _, bel (bel HB1.out (bel1 _ _)) (bel1 _ _)⟩
  go_wp2_with fail
  refine (HCo.out _).mono ?_
  rintro e V3 ⟨rfl, hb⟩
  have HY : Hid (Ins V3 (some ⟨V1.heap.size, 0, none⟩) 8 8 (dvC 11 d) ∧ HasC V3 (V1.heap.size + 1) 36 (cd 1 16 (some ⟨V1.heap.size, 0, none⟩) 8 8 7) ∧ Below W.heap.size W V3) := hide ⟨HX.out.1.later hb, HX.out.2.1.below hb, bel HX.out.2.2 hb⟩
  clear hb HX HB1
  generalize V1.heap.size = g0 at *
  go_upto_region 10 with fail
  obtain ⟨V4, hV4⟩ : ∃ V4, (V3.alloc (.cells (zA Z31) 3)).alloc (.cells #[.int .i64 0, .int .i64 0, .int .i64 0, .slice (some ⟨V3.heap.size, 0, none⟩) 31 31] 39) = V4 := ⟨_, rfl⟩
  have HQ4 : Hid (Dq W ((V3.alloc (.cells (zA Z31) 3)).alloc (.cells #[.int .i64 0, .int .i64 0, .int .i64 0, .slice (some ⟨V3.heap.size, 0, none⟩) 31 31] 39)) (dvC 11 d) g0 (g0 + 1) (V3.heap.size + 1) V3.heap.size (cd 1 16 (some ⟨g0, 0, none⟩) 8 8 7) #[.int .i64 0, .int .i64 0, .int .i64 0, .slice (some ⟨V3.heap.size, 0, none⟩) 31 31] 8 Z31) :=
    hide ⟨(HY.out.1.later (bel1 _ _)).later (bel1 _ _), (HY.out.2.1.below (bel1 _ _)).below (bel1 _ _), Cde.has_new1 V3 _ 39 _, (HasC.new V3 3 _).alloc _, bel (bel HY.out.2.2 (bel1 _ _)) (bel1 _ _)⟩
  rw [hV4] at HQ4 ⊢
  have hgc := HY.out.2.1.lt
  have HIns : Hid (∀ x y : Value, Ins ((V4.setCell ⟨V3.heap.size, 15, none⟩ x).setCell ⟨V3.heap.size, 14, none⟩ y) (some ⟨g0, 0, none⟩) 8 8 (dvC 11 d)) := hide fun x y => HY.out.1.later (((by rw [← hV4]; exact bel (bel1 _ _) (bel1 _ _) : Below V3.heap.size V3 V4).setCell (p := ⟨V3.heap.size, 15, none⟩) (Nat.le_refl _) x).setCell (p := ⟨V3.heap.size, 14, none⟩) (Nat.le_refl _) y)
  have hle := HY.out.2.2.size
  clear hV4 HY hmk
  generalize V3.heap.size = gp at *
  have e0 := HQ4.out.w.cell 3 rfl
  have e1 := HQ4.out.p.cell 15 (v := .int .i64 0) (by rw [← HZ31.out]; rfl)
  have e2 := HQ4.out.p.cell 14 (v := .int .i64 0) (by rw [← HZ31.out]; rfl)
  have f1 := HQ4.out.p.frozen 15
  have f2 := HQ4.out.p.frozen 14
  have hq5 : HasC ((V4.setCell ⟨gp, 15, none⟩ (.int .i64 A)).setCell ⟨gp, 14, none⟩ (.int .i64 (B - 32768))) gp 3 (zA (dvPs A (B - 32768))) := by
    have := (HQ4.out.p.set 15 (.int .i64 A)).set 14 (.int .i64 (B - 32768))
    rw [← HZ31.out, dvPs_set] at this
    exact this
  have HQ5 : Hid (Dq W ((V4.setCell ⟨gp, 15, none⟩ (.int .i64 A)).setCell ⟨gp, 14, none⟩ (.int .i64 (B - 32768))) (dvC 11 d) g0 (g0 + 1) (gp + 1) gp (cd 1 16 (some ⟨g0, 0, none⟩) 8 8 7) #[.int .i64 0, .int .i64 0, .int .i64 0, .slice (some ⟨gp, 0, none⟩) 31 31] 8 (dvPs A (B - 32768))) := hide ⟨HIns.out (.int .i64 A) (.int .i64 (B - 32768)), (HQ4.out.c.other (p := ⟨gp, 15, none⟩) (by simp; omega) _).other (p := ⟨gp, 14, none⟩) (by simp; omega) _, (HQ4.out.w.other (p := ⟨gp, 15, none⟩) (by simp) _).other (p := ⟨gp, 14, none⟩) (by simp) _, hq5, (HQ4.out.lo.setCell (p := ⟨gp, 15, none⟩) (by simp; omega) _).setCell (p := ⟨gp, 14, none⟩) (by simp; omega) _⟩
  obtain ⟨V5, hV5⟩ : ∃ V5, (V4.setCell ⟨gp, 15, none⟩ (.int .i64 A)).setCell ⟨gp, 14, none⟩ (.int .i64 (B - 32768)) = V5 := ⟨_, rfl⟩
  rw [hV5] at HQ5
  clear hq5
  go_upto_region 12 with fail
  clear hV5 e0 e1 e2 f1 f2 HQ4
  obtain ⟨c0, c1, c2, c3⟩ := four_of HQ5.out.c
  go_wp2_with fail
  refine (HRe.out _ _ HQ5.out.i).mono ?_
  rintro e V6 ⟨a6, c6, rfl, hO, hb⟩
  have HQ6 := hide ((HQ5.out.below hb).below (bel1 V6 (.cells (cd 1 16 a6 m c6 u) 36)))
  have HR6 := hide (HasC.new V6 36 (cd 1 16 a6 m c6 u))
  obtain ⟨a', c', e', hI6, -⟩ := Ins.of_owns hO
  cases e'
  have HI6 := hide (hI6.later (bel1 V6 (.cells (cd 1 16 a6 m c6 u) 36)))
  have hw6 := (HQ5.out.below hb).w
  obtain ⟨w0, w1, w2, w3⟩ := four_of hw6
  have hw6l := hw6.lt
  clear hb hO hI6 HRe HQ5 c0 c1 c2 c3 hw6
  go_wp2_with fail
  refine (HVa.out _ _ _ _ HI6.out (Cde.has_z (L := dvPs A (B - 32768)) HQ6.out.p (by simp [dvPs]))).mono ?_
  rintro e V7 ⟨la, lc, rfl, hO, hb⟩
  dsimp only at hO ⊢
  have HX7 := hide (Cde.tw_ints hO)
  rw [HU2.out] at HX7 ⊢
  have HR7 := hide (HR6.out.below hb)
  have HB7 := hide (bel HQ6.out.lo hb)
  clear hO hb HVa w0 w1 w2 w3 hw6l HI6 HQ6 HR6
  generalize V6.heap.size = gr at *
  obtain ⟨p, hp⟩ : ∃ p : Nat, u = p := ⟨u.toNat, by have := HU3.out; omega⟩
  subst hp
  have hu4 := HU4.out
  have hu5 := HU5.out
  rw [Int.toNat_natCast] at hu4 hu5
  obtain ⟨bx, fx, rfl, -, gx⟩ := HX7.out.at (by omega)
  have s1 := gx p hu4
  rw [hu5, hz] at s1
  obtain ⟨r0, r1, r2, r3⟩ := four_of HR7.out
  have i1 : (0 : Int) ≤ p := by omega
  have i2 : (p : Int) < m := by omega
  have i3 : decide (p < m) = true := by simp; omega
  have i4 : (z == z) = true := by simp
  clear gx hu5 HU2 HU3 HU4 HU5 HX7
  go_wp2_with fail
  go_ret
  exact ⟨rfl, HB7.out⟩

set_option maxRecDepth 100000 in
set_option maxHeartbeats 8000000 in
theorem rdiv_12 (x d : Int) {W : World} (hx : -2147483648 ≤ x ∧ x ≤ 2147483647) (hd : -2147483648 ≤ d ∧ d ≤ 2147483647) (h0 : d ≠ 0) (h1 : d ≠ -1) :
    Calls Try.prog 6 #[.int .i32 x, .int .i32 d, .bool true] W fun e w' => e = .returned (.bool true) ∧ Below W.heap.size W w' := by
  have HA := hide fun V => uawake_any V
  have HCo := hide fun w => rcount_any 1 16 w
  rw [show countZ 1 16 = 31 by decide] at HCo
  have hmk : ∀ w : World, (Instr.makeSlice 37 (.int .i64 31) (.int .i64 31)).run Try.prog w = .ok (.slice (some ⟨w.heap.size, 0, none⟩) 31 31) (w.alloc (.cells (zA (List.replicate 31 0)) 3)) := Cde.make_z 31 (by omega)
  obtain ⟨Z31, hZ31⟩ : ∃ Z : List Int, List.replicate 31 0 = Z := ⟨_, rfl⟩
  rw [hZ31] at hmk
  have HZ31 := hide hZ31
  clear hZ31
  obtain ⟨U, u1, u2, u3, u4, u5⟩ := dv_all (op := 12) (.inr rfl) hd hx h0 h1
  rw [show (if (12 : Int) = 11 then x.tdiv d else x.tmod d) = x.tmod d from rfl] at u5
  obtain ⟨m, hm⟩ : ∃ m, (rxL 1 16 (dvC 12 d) 7).length = m := ⟨_, rfl⟩
  have HRe := hide fun (V : World) (a : Option Addr) (h : Ins V a 8 8 (dvC 12 d)) => ureduce_ok 1 16 7 h (dvc_taken (.inr rfl) hd h0 h1) hm
  have HVa := hide fun (V : World) (a p : Option Addr) (c : Nat) (h : Ins V a m c (rxL 1 16 (dvC 12 d) 7)) (hp : Ints V p 31 31 (dvPs (x / 65536) (x % 65536 - 32768))) => Cde.cvalues_any 1 16 (rxO 1 16 (dvC 12 d) 7) ⟨0, 0, 0, dvPs (x / 65536) (x % 65536 - 32768)⟩ h hp
  rw [u1] at HVa
  rw [hm] at u2 u4
  generalize rxL 1 16 (dvC 12 d) 7 = I at *
  generalize rxO 1 16 (dvC 12 d) 7 = u at *
  obtain ⟨z, hz⟩ : ∃ z, x.tmod d = z := ⟨_, rfl⟩
  have HU2 := hide u2
  have HU4 := hide u4
  have HU5 := hide u5
  have HU3 := hide u3
  obtain ⟨x1, x2⟩ := hx
  obtain ⟨d1, d2⟩ := hd
  have q0 : (d == 0) = false := by simpa using h0
  have q1 : (d == -1) = false := by simpa using h1
  have hl16 := low_16 x
  obtain ⟨A, hA⟩ : ∃ A : Int, x / 65536 = A := ⟨_, rfl⟩
  obtain ⟨B, hB⟩ : ∃ B : Int, x % 65536 = B := ⟨_, rfl⟩
  have b1 : 0 ≤ B ∧ B < 65536 := by omega
  rw [hB] at hl16
  rw [hA, hB] at HVa
  clear u1 u2 u3 u4 u5 hm
  have hzb : -2147483648 ≤ z ∧ z ≤ 2147483647 := by rw [← hz]; exact tm_w ⟨x1, x2⟩
  have hwz : wrap64 z = z := wrap64_in _ ⟨by omega, by omega⟩
  have hs16 : x / 2 ^ 16 = A := by rw [← hA]; rfl
  clear h1
  go_enter Try.func6, Try.ntmps6
  go_wp2_with fail
  refine (HA.out _).mono ?_
  rintro e V1 ⟨rfl, hb⟩
  have HB1 := hide hb
  clear hb
  go_wp2_with fail
  go_quiet (fail)
  have HB1' := hide (bel HB1.out (Cde.below_dN V1 nq))
  clear HB1
  generalize V1.drewN nq = V1b at *
  clear V1
  rename World => V1
  have HB1 := HB1'
  clear HB1'
  have HX : Hid (Ins ((V1.alloc (.cells (is6 (dvC 12 d)).toArray 53)).alloc (.cells (cd 1 16 (some ⟨V1.heap.size, 0, none⟩) 8 8 7) 36)) (some ⟨V1.heap.size, 0, none⟩) 8 8 (dvC 12 d) ∧ HasC ((V1.alloc (.cells (is6 (dvC 12 d)).toArray 53)).alloc (.cells (cd 1 16 (some ⟨V1.heap.size, 0, none⟩) 8 8 7) 36)) (V1.heap.size + 1) 36 (cd 1 16 (some ⟨V1.heap.size, 0, none⟩) 8 8 7) ∧ Below W.heap.size W ((V1.alloc (.cells (is6 (dvC 12 d)).toArray 53)).alloc (.cells (cd 1 16 (some ⟨V1.heap.size, 0, none⟩) 8 8 7) 36))) :=
    hide ⟨(Cde.has_ins (L := dvC 12 d) (HasC.new V1 53 (is6 (dvC 12 d)).toArray) (by simp [dvC, dvP])).later (bel1 _ _), Cde.has_new1 V1 _ 36 _, bel (bel HB1.out (bel1 _ _)) (bel1 _ _)⟩
  go_wp2_with fail
  refine (HCo.out _).mono ?_
  rintro e V3 ⟨rfl, hb⟩
  have HY : Hid (Ins V3 (some ⟨V1.heap.size, 0, none⟩) 8 8 (dvC 12 d) ∧ HasC V3 (V1.heap.size + 1) 36 (cd 1 16 (some ⟨V1.heap.size, 0, none⟩) 8 8 7) ∧ Below W.heap.size W V3) := hide ⟨HX.out.1.later hb, HX.out.2.1.below hb, bel HX.out.2.2 hb⟩
  clear hb HX HB1
  generalize V1.heap.size = g0 at *
  go_upto_region 10 with fail
  obtain ⟨V4, hV4⟩ : ∃ V4, (V3.alloc (.cells (zA Z31) 3)).alloc (.cells #[.int .i64 0, .int .i64 0, .int .i64 0, .slice (some ⟨V3.heap.size, 0, none⟩) 31 31] 39) = V4 := ⟨_, rfl⟩
  have HQ4 : Hid (Dq W ((V3.alloc (.cells (zA Z31) 3)).alloc (.cells #[.int .i64 0, .int .i64 0, .int .i64 0, .slice (some ⟨V3.heap.size, 0, none⟩) 31 31] 39)) (dvC 12 d) g0 (g0 + 1) (V3.heap.size + 1) V3.heap.size (cd 1 16 (some ⟨g0, 0, none⟩) 8 8 7) #[.int .i64 0, .int .i64 0, .int .i64 0, .slice (some ⟨V3.heap.size, 0, none⟩) 31 31] 8 Z31) :=
    hide ⟨(HY.out.1.later (bel1 _ _)).later (bel1 _ _), (HY.out.2.1.below (bel1 _ _)).below (bel1 _ _), Cde.has_new1 V3 _ 39 _, (HasC.new V3 3 _).alloc _, bel (bel HY.out.2.2 (bel1 _ _)) (bel1 _ _)⟩
  rw [hV4] at HQ4 ⊢
  have hgc := HY.out.2.1.lt
  have HIns : Hid (∀ x y : Value, Ins ((V4.setCell ⟨V3.heap.size, 15, none⟩ x).setCell ⟨V3.heap.size, 14, none⟩ y) (some ⟨g0, 0, none⟩) 8 8 (dvC 12 d)) := hide fun x y => HY.out.1.later (((by rw [← hV4]; exact bel (bel1 _ _) (bel1 _ _) : Below V3.heap.size V3 V4).setCell (p := ⟨V3.heap.size, 15, none⟩) (Nat.le_refl _) x).setCell (p := ⟨V3.heap.size, 14, none⟩) (Nat.le_refl _) y)
  have hle := HY.out.2.2.size
  clear hV4 HY hmk
  generalize V3.heap.size = gp at *
  have e0 := HQ4.out.w.cell 3 rfl
  have e1 := HQ4.out.p.cell 15 (v := .int .i64 0) (by rw [← HZ31.out]; rfl)
  have e2 := HQ4.out.p.cell 14 (v := .int .i64 0) (by rw [← HZ31.out]; rfl)
  have f1 := HQ4.out.p.frozen 15
  have f2 := HQ4.out.p.frozen 14
  have hq5 : HasC ((V4.setCell ⟨gp, 15, none⟩ (.int .i64 A)).setCell ⟨gp, 14, none⟩ (.int .i64 (B - 32768))) gp 3 (zA (dvPs A (B - 32768))) := by
    have := (HQ4.out.p.set 15 (.int .i64 A)).set 14 (.int .i64 (B - 32768))
    rw [← HZ31.out, dvPs_set] at this
    exact this
  have HQ5 : Hid (Dq W ((V4.setCell ⟨gp, 15, none⟩ (.int .i64 A)).setCell ⟨gp, 14, none⟩ (.int .i64 (B - 32768))) (dvC 12 d) g0 (g0 + 1) (gp + 1) gp (cd 1 16 (some ⟨g0, 0, none⟩) 8 8 7) #[.int .i64 0, .int .i64 0, .int .i64 0, .slice (some ⟨gp, 0, none⟩) 31 31] 8 (dvPs A (B - 32768))) := hide ⟨HIns.out (.int .i64 A) (.int .i64 (B - 32768)), (HQ4.out.c.other (p := ⟨gp, 15, none⟩) (by simp; omega) _).other (p := ⟨gp, 14, none⟩) (by simp; omega) _, (HQ4.out.w.other (p := ⟨gp, 15, none⟩) (by simp) _).other (p := ⟨gp, 14, none⟩) (by simp) _, hq5, (HQ4.out.lo.setCell (p := ⟨gp, 15, none⟩) (by simp; omega) _).setCell (p := ⟨gp, 14, none⟩) (by simp; omega) _⟩
  obtain ⟨V5, hV5⟩ : ∃ V5, (V4.setCell ⟨gp, 15, none⟩ (.int .i64 A)).setCell ⟨gp, 14, none⟩ (.int .i64 (B - 32768)) = V5 := ⟨_, rfl⟩
  rw [hV5] at HQ5
  clear hq5
  go_upto_region 12 with fail
  clear hV5 e0 e1 e2 f1 f2 HQ4
  obtain ⟨c0, c1, c2, c3⟩ := four_of HQ5.out.c
  go_wp2_with fail
  refine (HRe.out _ _ HQ5.out.i).mono ?_
  rintro e V6 ⟨a6, c6, rfl, hO, hb⟩
  have HQ6 := hide ((HQ5.out.below hb).below (bel1 V6 (.cells (cd 1 16 a6 m c6 u) 36)))
  have HR6 := hide (HasC.new V6 36 (cd 1 16 a6 m c6 u))
  obtain ⟨a', c', e', hI6, -⟩ := Ins.of_owns hO
  cases e'
  have HI6 := hide (hI6.later (bel1 V6 (.cells (cd 1 16 a6 m c6 u) 36)))
  have hw6 := (HQ5.out.below hb).w
  obtain ⟨w0, w1, w2, w3⟩ := four_of hw6
  have hw6l := hw6.lt
  clear hb hO hI6 HRe HQ5 c0 c1 c2 c3 hw6
  go_wp2_with fail
  refine (HVa.out _ _ _ _ HI6.out (Cde.has_z (L := dvPs A (B - 32768)) HQ6.out.p (by simp [dvPs]))).mono ?_
  rintro e V7 ⟨la, lc, rfl, hO, hb⟩
  dsimp only at hO ⊢
  have HX7 := hide (Cde.tw_ints hO)
  rw [HU2.out] at HX7 ⊢
  have HR7 := hide (HR6.out.below hb)
  have HB7 := hide (bel HQ6.out.lo hb)
  clear hO hb HVa w0 w1 w2 w3 hw6l HI6 HQ6 HR6
  generalize V6.heap.size = gr at *
  obtain ⟨p, hp⟩ : ∃ p : Nat, u = p := ⟨u.toNat, by have := HU3.out; omega⟩
  subst hp
  have hu4 := HU4.out
  have hu5 := HU5.out
  rw [Int.toNat_natCast] at hu4 hu5
  obtain ⟨bx, fx, rfl, -, gx⟩ := HX7.out.at (by omega)
  have s1 := gx p hu4
  rw [hu5, hz] at s1
  obtain ⟨r0, r1, r2, r3⟩ := four_of HR7.out
  have i1 : (0 : Int) ≤ p := by omega
  have i2 : (p : Int) < m := by omega
  have i3 : decide (p < m) = true := by simp; omega
  have i4 : (z == z) = true := by simp
  clear gx hu5 HU2 HU3 HU4 HU5 HX7
  go_wp2_with fail
  go_ret
  exact ⟨rfl, HB7.out⟩


end Go.Proofs.Rdc
