/-
  FoldNumbers' walk.
-/
import Derived.Test.YtjfcdfjegjplhaaMFD
import Derived.Test.YtjfcdfjegjplhaaMFn
import Derived.Deep.CutRange
namespace Go.Proofs.Fld
open Go.RowKit Go.IntWalk Ytjfcdfjegjplhaa.Knd
open Cde (In i0 ia kd cd Ins at6 six_of four_of two_of has_new1 is6 zA zA_get spn mcB below_drew)
open Vfy (vfE w32)
set_option linter.unusedVariables false

theorem wf_i32 {x : Int} (h : (Lit.int .i32 x).wf = true) : -2147483648 ≤ x ∧ x ≤ 2147483647 := by
  simp [Lit.wf, IntKind.min, IntKind.max, IntKind.signed, IntKind.bits] at h
  exact ⟨by omega, by omega⟩
/-- What Fold makes of the code, by what the operator answers. -/
theorem num_ways {op k s a b c v er : Int} {D : List In} (hD : numL op k s a b c = D) (h1 : 1 ≤ ar op) (ha : w32 a) (hb : w32 b) (hc : w32 c) (hZ : vl op k s (numX op a b c) = (v, er)) :
    (Cde.ccE 1 3 D 3 = 15 ∧ vfE 1 3 D 3 = 15) ∨ (Cde.ccE 1 3 D 3 = 0 ∧ er ≠ 0 ∧ vfE 1 3 D 3 = er) ∨
    (Cde.ccE 1 3 D 3 = 0 ∧ er = 0 ∧ vfE 1 3 D 3 = 0 ∧ fdL 1 3 D 3 = [nuI a, nuI b, nuI c, nuI v] ∧ fdO 1 3 D 3 = 3) := by
  subst hD
  rcases Cde.ccE_cases 1 3 (numL op k s a b c) 3 with ⟨hm, hc0⟩ | ⟨hm, hc0⟩
  · by_cases h0 : er = 0
    · subst h0
      obtain ⟨q1, q2, q3⟩ := num_ok h1 hm ha hb hc hZ
      exact .inr (.inr ⟨hc0, rfl, q1, q2, q3⟩)
    · exact .inr (.inl ⟨hc0, h0, num_err h1 hm (by rw [hZ]) h0⟩)
  · exact .inl ⟨hc0, num_bad hm⟩

set_option maxRecDepth 100000 in
set_option maxHeartbeats 32000000 in
theorem fnum_walk (op k s a b c : Int) {W : World} (ha : -2147483648 ≤ a ∧ a ≤ 2147483647) (hb : -2147483648 ≤ b ∧ b ≤ 2147483647) (hc : -2147483648 ≤ c ∧ c ≤ 2147483647) :
    Calls Try.prog 6 #[.int .i64 op, .int .i64 k, .int .i64 s, .int .i32 a, .int .i32 b, .int .i32 c] W fun e w' => e = .returned (.bool true) ∧ Below W.heap.size W w' := by
  have HA := hide fun V => fawake_any V
  have HAr := hide fun W => Ytjfcdfjegjplhaa.Spn.arity_any op W
  by_cases h1 : 1 ≤ ar op
  · have wa : wrap64 a = a := wrap64_in _ (by omega)
    have wb : wrap64 b = b := wrap64_in _ (by omega)
    have wc : wrap64 c = c := wrap64_in _ (by omega)
    rcases ar3 h1 with e | e | e
    · have e' : Ytjfcdfjegjplhaa.Spn.ar op = 1 := e
      rw [e'] at HAr
      have hDe : numL op k s a b c = [nuI a, nuI b, nuI c, ⟨op, 0, 0, 0, k, s⟩] := by simp [numL, opI, e]
      go_enter Try.func6, Try.ntmps6
      go_wp2_with fail
      refine (HAr.out _).mono ?_
      rintro e9 w1 ⟨rfl, hw1⟩
      subst hw1
      go_wp2_with fail
      refine (HA.out _).mono ?_
      rintro e9 V1 ⟨rfl, hb1⟩
      have hx0 : HasC (V1.alloc (.cells #[.int .i64 a, .int .i64 b, .int .i64 c] 3)) V1.heap.size 3 (zA ([a] ++ [b, c])) := HasC.new _ _ _
      have hvl := Ytjfcdfjegjplhaa.Spn.value_any op k s (some ⟨V1.heap.size, 0, none⟩) 1 3 [a] _ (spn (Cde.z_pre hx0 rfl))
      have hbx := bel hb1 (bel1 V1 (.cells #[.int .i64 a, .int .i64 b, .int .i64 c] 3))
      have HBx := hide hbx
      have HX0 := hide hx0
      have hnx : numX op a b c = [a] := by unfold numX; rw [e]; rfl
      obtain ⟨⟨v, er⟩, hZ⟩ : ∃ Z, vl op k s (numX op a b c) = Z := ⟨_, rfl⟩
      have hZ' : Ytjfcdfjegjplhaa.Spn.valZ op k s [a] = (v, er) := by rw [← hnx]; exact hZ
      rw [hZ'] at hvl
      have HVl := hide hvl
      have HWays := hide (num_ways hDe h1 ha hb hc hZ)
      clear hx0 hbx hb1 hnx hZ hZ' wa wb wc HAr hvl hDe
      go_wp2_with fail
      refine HVl.out.mono ?_
      rintro e9 V2 ⟨rfl, hb⟩
      have HX2 := hide (HX0.out.below hb)
      have HB2 := hide (bel HBx.out hb)
      obtain ⟨x0, x1, x2⟩ : V2.cell? ⟨V1.heap.size, 0, none⟩ = some (.int .i64 a) ∧ V2.cell? ⟨V1.heap.size, 1, none⟩ = some (.int .i64 b) ∧ V2.cell? ⟨V1.heap.size, 2, none⟩ = some (.int .i64 c) := ⟨HX2.out.cell 0 rfl, HX2.out.cell 1 rfl, HX2.out.cell 2 rfl⟩
      have hz := HX2.out.lt
      clear hb HX0 HBx HVl
      generalize V1.heap.size = gx at *
      go_upto_region 11 with fail
      have HN3 : Hid (HasC (V2.alloc (.cells #[.int .i64 op, .int .i64 0, .int .i64 0, .int .i64 0, .int .i64 k, .int .i64 s] 23)) V2.heap.size 23 (ia ⟨op, 0, 0, 0, k, s⟩)) := hide (HasC.new _ _ _)
      have HB3 := hide (bel HB2.out (bel1 V2 (.cells #[.int .i64 op, .int .i64 0, .int .i64 0, .int .i64 0, .int .i64 k, .int .i64 s] 23)))
      have HX3 := hide (HX2.out.alloc (.cells #[.int .i64 op, .int .i64 0, .int .i64 0, .int .i64 0, .int .i64 k, .int .i64 s] 23))
      generalize V2.heap.size = go at *
      obtain ⟨V3, hV3⟩ : ∃ V3, V2.alloc (.cells #[.int .i64 op, .int .i64 0, .int .i64 0, .int .i64 0, .int .i64 k, .int .i64 s] 23) = V3 := ⟨_, rfl⟩
      rw [hV3] at HN3 HB3 HX3 ⊢
      clear hV3 x0 x1 x2 hz HX2 HB2
      obtain ⟨x0, x1, x2⟩ : V3.cell? ⟨gx, 0, none⟩ = some (.int .i64 a) ∧ V3.cell? ⟨gx, 1, none⟩ = some (.int .i64 b) ∧ V3.cell? ⟨gx, 2, none⟩ = some (.int .i64 c) := ⟨HX3.out.cell 0 rfl, HX3.out.cell 1 rfl, HX3.out.cell 2 rfl⟩
      obtain ⟨e0, e1, e2, e3, e4, e5⟩ := six_of HN3.out
      dsimp only at e0 e1 e2 e3 e4 e5
      go_region_held3 (fun w' => (w'.cell? ⟨gx, 0, none⟩ = some (.int .i64 a) ∧ w'.cell? ⟨gx, 1, none⟩ = some (.int .i64 b) ∧ w'.cell? ⟨gx, 2, none⟩ = some (.int .i64 c)) ∧ w'.cell? ⟨go, 0, none⟩ = some (.int .i64 op) ∧ w'.cell? ⟨go, 1, none⟩ = some (.int .i64 0) ∧ w'.cell? ⟨go, 2, none⟩ = some (.int .i64 0) ∧ w'.cell? ⟨go, 3, none⟩ = some (.int .i64 0) ∧ w'.cell? ⟨go, 4, none⟩ = some (.int .i64 k) ∧ w'.cell? ⟨go, 5, none⟩ = some (.int .i64 s))
        (first | exact ⟨⟨x0, x1, x2⟩, e0, e1, e2, e3, e4, e5⟩ | go_keep)
        (fail)
      · clear x0 x1 x2 e0 e1 e2 e3 e4 e5 HX3 HN3
        have hD4 := HasC.new (V3.alloc (.cells #[.int .i64 1, .int .i64 0, .int .i64 0, .int .i64 0, .int .i64 a, .int .i64 0, .int .i64 1, .int .i64 0, .int .i64 0, .int .i64 0, .int .i64 b, .int .i64 0, .int .i64 1, .int .i64 0, .int .i64 0, .int .i64 0, .int .i64 c, .int .i64 0, .int .i64 op, .int .i64 0, .int .i64 0, .int .i64 0, .int .i64 k, .int .i64 s] 23)) 33 (cd 1 3 (some ⟨V3.heap.size, 0, none⟩) 4 4 3)
        rw [World.size_alloc] at hD4
        have hI4 : HasC ((V3.alloc (.cells #[.int .i64 1, .int .i64 0, .int .i64 0, .int .i64 0, .int .i64 a, .int .i64 0, .int .i64 1, .int .i64 0, .int .i64 0, .int .i64 0, .int .i64 b, .int .i64 0, .int .i64 1, .int .i64 0, .int .i64 0, .int .i64 0, .int .i64 c, .int .i64 0, .int .i64 op, .int .i64 0, .int .i64 0, .int .i64 0, .int .i64 k, .int .i64 s] 23)).alloc (.cells (cd 1 3 (some ⟨V3.heap.size, 0, none⟩) 4 4 3) 33)) (V3.heap.size) 23 (is6 [nuI a, nuI b, nuI c, ⟨op, 0, 0, 0, k, s⟩]).toArray := (HasC.new V3 23 #[.int .i64 1, .int .i64 0, .int .i64 0, .int .i64 0, .int .i64 a, .int .i64 0, .int .i64 1, .int .i64 0, .int .i64 0, .int .i64 0, .int .i64 b, .int .i64 0, .int .i64 1, .int .i64 0, .int .i64 0, .int .i64 0, .int .i64 c, .int .i64 0, .int .i64 op, .int .i64 0, .int .i64 0, .int .i64 0, .int .i64 k, .int .i64 s]).alloc (.cells (cd 1 3 (some ⟨V3.heap.size, 0, none⟩) 4 4 3) 33)
        have hB4 := bel HB3.out (bel (bel1 V3 (.cells #[.int .i64 1, .int .i64 0, .int .i64 0, .int .i64 0, .int .i64 a, .int .i64 0, .int .i64 1, .int .i64 0, .int .i64 0, .int .i64 0, .int .i64 b, .int .i64 0, .int .i64 1, .int .i64 0, .int .i64 0, .int .i64 0, .int .i64 c, .int .i64 0, .int .i64 op, .int .i64 0, .int .i64 0, .int .i64 0, .int .i64 k, .int .i64 s] 23)) (bel1 _ (.cells (cd 1 3 (some ⟨V3.heap.size, 0, none⟩) 4 4 3) 33)))
        have HD4 := hide (hD4.below (below_drew _))
        have HI4 := hide (Cde.has_ins (hI4.below (below_drew _)) (by simp))
        have HB4 := hide (bel hB4 (below_drew _))
        clear hD4 hI4 hB4 HB3
        obtain ⟨V4, hV4⟩ : ∃ V4, (((V3.alloc (.cells #[.int .i64 1, .int .i64 0, .int .i64 0, .int .i64 0, .int .i64 a, .int .i64 0, .int .i64 1, .int .i64 0, .int .i64 0, .int .i64 0, .int .i64 b, .int .i64 0, .int .i64 1, .int .i64 0, .int .i64 0, .int .i64 0, .int .i64 c, .int .i64 0, .int .i64 op, .int .i64 0, .int .i64 0, .int .i64 0, .int .i64 k, .int .i64 s] 23)).alloc (.cells (cd 1 3 (some ⟨V3.heap.size, 0, none⟩) 4 4 3) 33)).drew) = V4 := ⟨_, rfl⟩
        rw [hV4] at HD4 HI4 HB4 ⊢
        clear hV4
        simp only [List.length_cons, List.length_nil] at HI4
        generalize [nuI a, nuI b, nuI c, ⟨op, 0, 0, 0, k, s⟩] = D at *
        generalize V3.heap.size + 1 = bd at *
        generalize V3.heap.size = gl at *
        obtain ⟨y0, y1, y2, y3⟩ := four_of HD4.out
        rcases HWays.out with ⟨w1, w2⟩ | ⟨w1, w2, w3⟩ | ⟨w1, w2, w3, w4, w5⟩
        · have HFo := hide (ffold_no 1 3 3 HI4.out w2 (by decide))
          have HCk := hide fun V (h : Ins V (some ⟨gl, 0, none⟩) 4 4 D) => Cde.ccheck_any 1 3 3 h
          rw [w1] at HCk
          clear w1 w2 HWays
          go_wp2_with fail
          refine HFo.out.mono ?_
          rintro e9 V5 ⟨a1, c1, rfl, hb5⟩
          have HB5 := hide (bel (bel HB4.out hb5) (bel1 V5 (.cells (cd 0 0 a1 0 c1 0) 33)))
          have HI5 := hide ((HI4.out.later hb5).later (bel1 V5 (.cells (cd 0 0 a1 0 c1 0) 33)))
          have hz5 := (HD4.out.below hb5).lt
          obtain ⟨z0, z1, z2, z3⟩ := four_of (HD4.out.below hb5)
          clear hb5 y0 y1 y2 y3 HFo
          go_wp2_with fail
          refine (HCk.out _ HI5.out).mono ?_
          rintro e9 V6 ⟨rfl, hb6⟩
          have HB6 := hide (bel HB5.out hb6)
          clear hb6 z0 z1 z2 z3
          go_wp2_with fail
          go_ret
          exact ⟨rfl, HB6.out⟩
        · have HFo := hide (ffold_no 1 3 3 HI4.out w3 w2)
          have HCk := hide fun V (h : Ins V (some ⟨gl, 0, none⟩) 4 4 D) => Cde.ccheck_any 1 3 3 h
          rw [w1] at HCk
          have q1 : (er != 0) = true := by simpa using w2
          have q2 : (er == er) = true := by simp
          clear w1 w2 w3 HWays
          go_wp2_with fail
          refine HFo.out.mono ?_
          rintro e9 V5 ⟨a1, c1, rfl, hb5⟩
          have HB5 := hide (bel (bel HB4.out hb5) (bel1 V5 (.cells (cd 0 0 a1 0 c1 0) 33)))
          have HI5 := hide ((HI4.out.later hb5).later (bel1 V5 (.cells (cd 0 0 a1 0 c1 0) 33)))
          have HE5 := hide (HasC.new V5 33 (cd 0 0 a1 0 c1 0))
          have hz5 := (HD4.out.below hb5).lt
          obtain ⟨z0, z1, z2, z3⟩ := four_of (HD4.out.below hb5)
          clear hb5 y0 y1 y2 y3 HFo
          go_wp2_with fail
          refine (HCk.out _ HI5.out).mono ?_
          rintro e9 V6 ⟨rfl, hb6⟩
          have HB6 := hide (bel HB5.out hb6)
          obtain ⟨t0, t1, t2, t3⟩ := four_of (HE5.out.below hb6)
          clear hb6 z0 z1 z2 z3
          go_wp2_with fail
          go_ret
          exact ⟨rfl, HB6.out⟩
        · have HFo := hide (ffold_ok 1 3 3 HI4.out w3)
          rw [w4, w5] at HFo
          have HCk := hide fun V (h : Ins V (some ⟨gl, 0, none⟩) 4 4 D) => Cde.ccheck_any 1 3 3 h
          rw [w1] at HCk
          subst w2
          clear w1 w3 w4 w5 HWays
          go_wp2_with fail
          refine HFo.out.mono ?_
          rintro e9 V5 ⟨a1, c1, rfl, hO, hb5⟩
          obtain ⟨a1', c1', e', hI0, -⟩ := Ins.of_owns hO
          cases e'
          have hbn := bel1 V5 (.cells (cd 1 3 a1 4 c1 3) 33)
          have HB5 := hide (bel (bel HB4.out hb5) hbn)
          have HI5 := hide ((HI4.out.later hb5).later hbn)
          have HJ5 := hide (hI0.later hbn)
          have HE5 := hide (HasC.new V5 33 (cd 1 3 a1 4 c1 3))
          have hz5 := (HD4.out.below hb5).lt
          obtain ⟨z0, z1, z2, z3⟩ := four_of (HD4.out.below hb5)
          clear hb5 hbn hO hI0 y0 y1 y2 y3 HFo
          go_wp2_with fail
          refine (HCk.out _ HI5.out).mono ?_
          rintro e9 V6 ⟨rfl, hb6⟩
          have HB6 := hide (bel HB5.out hb6)
          obtain ⟨t0, t1, t2, t3⟩ := four_of (HE5.out.below hb6)
          obtain ⟨gb, ob, rfl, hgl, hat⟩ := (HJ5.out.later hb6).at (by decide)
          obtain ⟨s0, s1, s2, s3, s4, s5⟩ := hat 3 (by decide)
          change V6.cell? ⟨gb, ob + 18, none⟩ = some (.int .i64 1) at s0
          change V6.cell? ⟨gb, ob + 18 + 1, none⟩ = some (.int .i64 0) at s1
          change V6.cell? ⟨gb, ob + 18 + 2, none⟩ = some (.int .i64 0) at s2
          change V6.cell? ⟨gb, ob + 18 + 3, none⟩ = some (.int .i64 0) at s3
          change V6.cell? ⟨gb, ob + 18 + 4, none⟩ = some (.int .i64 v) at s4
          change V6.cell? ⟨gb, ob + 18 + 5, none⟩ = some (.int .i64 0) at s5
          clear hb6 z0 z1 z2 z3 hat
          have q9 : (v == v) = true := by simp
          go_wp2_with fail
          go_ret
          exact ⟨rfl, HB6.out⟩
      · clear x0 x1 x2 e0 e1 e2 e3 e4 e5 HX3 HN3
        have hD4 := (HasC.new V3 33 (cd 1 3 (some ⟨V3.heap.size + 1, 0, none⟩) 4 4 3)).alloc (.cells #[.int .i64 1, .int .i64 0, .int .i64 0, .int .i64 0, .int .i64 a, .int .i64 0, .int .i64 1, .int .i64 0, .int .i64 0, .int .i64 0, .int .i64 b, .int .i64 0, .int .i64 1, .int .i64 0, .int .i64 0, .int .i64 0, .int .i64 c, .int .i64 0, .int .i64 op, .int .i64 0, .int .i64 0, .int .i64 0, .int .i64 k, .int .i64 s] 23)
        have hI4 : HasC ((V3.alloc (.cells (cd 1 3 (some ⟨V3.heap.size + 1, 0, none⟩) 4 4 3) 33)).alloc (.cells #[.int .i64 1, .int .i64 0, .int .i64 0, .int .i64 0, .int .i64 a, .int .i64 0, .int .i64 1, .int .i64 0, .int .i64 0, .int .i64 0, .int .i64 b, .int .i64 0, .int .i64 1, .int .i64 0, .int .i64 0, .int .i64 0, .int .i64 c, .int .i64 0, .int .i64 op, .int .i64 0, .int .i64 0, .int .i64 0, .int .i64 k, .int .i64 s] 23)) (V3.heap.size + 1) 23 (is6 [nuI a, nuI b, nuI c, ⟨op, 0, 0, 0, k, s⟩]).toArray := has_new1 V3 (.cells (cd 1 3 (some ⟨V3.heap.size + 1, 0, none⟩) 4 4 3) 33) 23 #[.int .i64 1, .int .i64 0, .int .i64 0, .int .i64 0, .int .i64 a, .int .i64 0, .int .i64 1, .int .i64 0, .int .i64 0, .int .i64 0, .int .i64 b, .int .i64 0, .int .i64 1, .int .i64 0, .int .i64 0, .int .i64 0, .int .i64 c, .int .i64 0, .int .i64 op, .int .i64 0, .int .i64 0, .int .i64 0, .int .i64 k, .int .i64 s]
        have hB4 := bel HB3.out (bel (bel1 V3 (.cells (cd 1 3 (some ⟨V3.heap.size + 1, 0, none⟩) 4 4 3) 33)) (bel1 _ (.cells #[.int .i64 1, .int .i64 0, .int .i64 0, .int .i64 0, .int .i64 a, .int .i64 0, .int .i64 1, .int .i64 0, .int .i64 0, .int .i64 0, .int .i64 b, .int .i64 0, .int .i64 1, .int .i64 0, .int .i64 0, .int .i64 0, .int .i64 c, .int .i64 0, .int .i64 op, .int .i64 0, .int .i64 0, .int .i64 0, .int .i64 k, .int .i64 s] 23)))
        have HD4 := hide (hD4.below (below_drew _))
        have HI4 := hide (Cde.has_ins (hI4.below (below_drew _)) (by simp))
        have HB4 := hide (bel hB4 (below_drew _))
        clear hD4 hI4 hB4 HB3
        obtain ⟨V4, hV4⟩ : ∃ V4, (((V3.alloc (.cells (cd 1 3 (some ⟨V3.heap.size + 1, 0, none⟩) 4 4 3) 33)).alloc (.cells #[.int .i64 1, .int .i64 0, .int .i64 0, .int .i64 0, .int .i64 a, .int .i64 0, .int .i64 1, .int .i64 0, .int .i64 0, .int .i64 0, .int .i64 b, .int .i64 0, .int .i64 1, .int .i64 0, .int .i64 0, .int .i64 0, .int .i64 c, .int .i64 0, .int .i64 op, .int .i64 0, .int .i64 0, .int .i64 0, .int .i64 k, .int .i64 s] 23)).drew) = V4 := ⟨_, rfl⟩
        rw [hV4] at HD4 HI4 HB4 ⊢
        clear hV4
        simp only [List.length_cons, List.length_nil] at HI4
        generalize [nuI a, nuI b, nuI c, ⟨op, 0, 0, 0, k, s⟩] = D at *
        generalize V3.heap.size + 1 = gl at *
        generalize V3.heap.size = bd at *
        obtain ⟨y0, y1, y2, y3⟩ := four_of HD4.out
        rcases HWays.out with ⟨w1, w2⟩ | ⟨w1, w2, w3⟩ | ⟨w1, w2, w3, w4, w5⟩
        · have HFo := hide (ffold_no 1 3 3 HI4.out w2 (by decide))
          have HCk := hide fun V (h : Ins V (some ⟨gl, 0, none⟩) 4 4 D) => Cde.ccheck_any 1 3 3 h
          rw [w1] at HCk
          clear w1 w2 HWays
          go_wp2_with fail
          refine HFo.out.mono ?_
          rintro e9 V5 ⟨a1, c1, rfl, hb5⟩
          have HB5 := hide (bel (bel HB4.out hb5) (bel1 V5 (.cells (cd 0 0 a1 0 c1 0) 33)))
          have HI5 := hide ((HI4.out.later hb5).later (bel1 V5 (.cells (cd 0 0 a1 0 c1 0) 33)))
          have hz5 := (HD4.out.below hb5).lt
          obtain ⟨z0, z1, z2, z3⟩ := four_of (HD4.out.below hb5)
          clear hb5 y0 y1 y2 y3 HFo
          go_wp2_with fail
          refine (HCk.out _ HI5.out).mono ?_
          rintro e9 V6 ⟨rfl, hb6⟩
          have HB6 := hide (bel HB5.out hb6)
          clear hb6 z0 z1 z2 z3
          go_wp2_with fail
          go_ret
          exact ⟨rfl, HB6.out⟩
        · have HFo := hide (ffold_no 1 3 3 HI4.out w3 w2)
          have HCk := hide fun V (h : Ins V (some ⟨gl, 0, none⟩) 4 4 D) => Cde.ccheck_any 1 3 3 h
          rw [w1] at HCk
          have q1 : (er != 0) = true := by simpa using w2
          have q2 : (er == er) = true := by simp
          clear w1 w2 w3 HWays
          go_wp2_with fail
          refine HFo.out.mono ?_
          rintro e9 V5 ⟨a1, c1, rfl, hb5⟩
          have HB5 := hide (bel (bel HB4.out hb5) (bel1 V5 (.cells (cd 0 0 a1 0 c1 0) 33)))
          have HI5 := hide ((HI4.out.later hb5).later (bel1 V5 (.cells (cd 0 0 a1 0 c1 0) 33)))
          have HE5 := hide (HasC.new V5 33 (cd 0 0 a1 0 c1 0))
          have hz5 := (HD4.out.below hb5).lt
          obtain ⟨z0, z1, z2, z3⟩ := four_of (HD4.out.below hb5)
          clear hb5 y0 y1 y2 y3 HFo
          go_wp2_with fail
          refine (HCk.out _ HI5.out).mono ?_
          rintro e9 V6 ⟨rfl, hb6⟩
          have HB6 := hide (bel HB5.out hb6)
          obtain ⟨t0, t1, t2, t3⟩ := four_of (HE5.out.below hb6)
          clear hb6 z0 z1 z2 z3
          go_wp2_with fail
          go_ret
          exact ⟨rfl, HB6.out⟩
        · have HFo := hide (ffold_ok 1 3 3 HI4.out w3)
          rw [w4, w5] at HFo
          have HCk := hide fun V (h : Ins V (some ⟨gl, 0, none⟩) 4 4 D) => Cde.ccheck_any 1 3 3 h
          rw [w1] at HCk
          subst w2
          clear w1 w3 w4 w5 HWays
          go_wp2_with fail
          refine HFo.out.mono ?_
          rintro e9 V5 ⟨a1, c1, rfl, hO, hb5⟩
          obtain ⟨a1', c1', e', hI0, -⟩ := Ins.of_owns hO
          cases e'
          have hbn := bel1 V5 (.cells (cd 1 3 a1 4 c1 3) 33)
          have HB5 := hide (bel (bel HB4.out hb5) hbn)
          have HI5 := hide ((HI4.out.later hb5).later hbn)
          have HJ5 := hide (hI0.later hbn)
          have HE5 := hide (HasC.new V5 33 (cd 1 3 a1 4 c1 3))
          have hz5 := (HD4.out.below hb5).lt
          obtain ⟨z0, z1, z2, z3⟩ := four_of (HD4.out.below hb5)
          clear hb5 hbn hO hI0 y0 y1 y2 y3 HFo
          go_wp2_with fail
          refine (HCk.out _ HI5.out).mono ?_
          rintro e9 V6 ⟨rfl, hb6⟩
          have HB6 := hide (bel HB5.out hb6)
          obtain ⟨t0, t1, t2, t3⟩ := four_of (HE5.out.below hb6)
          obtain ⟨gb, ob, rfl, hgl, hat⟩ := (HJ5.out.later hb6).at (by decide)
          obtain ⟨s0, s1, s2, s3, s4, s5⟩ := hat 3 (by decide)
          change V6.cell? ⟨gb, ob + 18, none⟩ = some (.int .i64 1) at s0
          change V6.cell? ⟨gb, ob + 18 + 1, none⟩ = some (.int .i64 0) at s1
          change V6.cell? ⟨gb, ob + 18 + 2, none⟩ = some (.int .i64 0) at s2
          change V6.cell? ⟨gb, ob + 18 + 3, none⟩ = some (.int .i64 0) at s3
          change V6.cell? ⟨gb, ob + 18 + 4, none⟩ = some (.int .i64 v) at s4
          change V6.cell? ⟨gb, ob + 18 + 5, none⟩ = some (.int .i64 0) at s5
          clear hb6 z0 z1 z2 z3 hat
          have q9 : (v == v) = true := by simp
          go_wp2_with fail
          go_ret
          exact ⟨rfl, HB6.out⟩
    · have e' : Ytjfcdfjegjplhaa.Spn.ar op = 2 := e
      rw [e'] at HAr
      have hDe : numL op k s a b c = [nuI a, nuI b, nuI c, ⟨op, 0, 1, 0, k, s⟩] := by simp [numL, opI, e]
      go_enter Try.func6, Try.ntmps6
      go_wp2_with fail
      refine (HAr.out _).mono ?_
      rintro e9 w1 ⟨rfl, hw1⟩
      subst hw1
      go_wp2_with fail
      refine (HA.out _).mono ?_
      rintro e9 V1 ⟨rfl, hb1⟩
      have hx0 : HasC (V1.alloc (.cells #[.int .i64 a, .int .i64 b, .int .i64 c] 3)) V1.heap.size 3 (zA ([a, b] ++ [c])) := HasC.new _ _ _
      have hvl := Ytjfcdfjegjplhaa.Spn.value_any op k s (some ⟨V1.heap.size, 0, none⟩) 2 3 [a, b] _ (spn (Cde.z_pre hx0 rfl))
      have hbx := bel hb1 (bel1 V1 (.cells #[.int .i64 a, .int .i64 b, .int .i64 c] 3))
      have HBx := hide hbx
      have HX0 := hide hx0
      have hnx : numX op a b c = [a, b] := by unfold numX; rw [e]; rfl
      obtain ⟨⟨v, er⟩, hZ⟩ : ∃ Z, vl op k s (numX op a b c) = Z := ⟨_, rfl⟩
      have hZ' : Ytjfcdfjegjplhaa.Spn.valZ op k s [a, b] = (v, er) := by rw [← hnx]; exact hZ
      rw [hZ'] at hvl
      have HVl := hide hvl
      have HWays := hide (num_ways hDe h1 ha hb hc hZ)
      clear hx0 hbx hb1 hnx hZ hZ' wa wb wc HAr hvl hDe
      go_wp2_with fail
      refine HVl.out.mono ?_
      rintro e9 V2 ⟨rfl, hb⟩
      have HX2 := hide (HX0.out.below hb)
      have HB2 := hide (bel HBx.out hb)
      obtain ⟨x0, x1, x2⟩ : V2.cell? ⟨V1.heap.size, 0, none⟩ = some (.int .i64 a) ∧ V2.cell? ⟨V1.heap.size, 1, none⟩ = some (.int .i64 b) ∧ V2.cell? ⟨V1.heap.size, 2, none⟩ = some (.int .i64 c) := ⟨HX2.out.cell 0 rfl, HX2.out.cell 1 rfl, HX2.out.cell 2 rfl⟩
      have hz := HX2.out.lt
      clear hb HX0 HBx HVl
      generalize V1.heap.size = gx at *
      go_upto_region 11 with fail
      have HN3 : Hid (HasC (V2.alloc (.cells #[.int .i64 op, .int .i64 0, .int .i64 1, .int .i64 0, .int .i64 k, .int .i64 s] 23)) V2.heap.size 23 (ia ⟨op, 0, 1, 0, k, s⟩)) := hide (HasC.new _ _ _)
      have HB3 := hide (bel HB2.out (bel1 V2 (.cells #[.int .i64 op, .int .i64 0, .int .i64 1, .int .i64 0, .int .i64 k, .int .i64 s] 23)))
      have HX3 := hide (HX2.out.alloc (.cells #[.int .i64 op, .int .i64 0, .int .i64 1, .int .i64 0, .int .i64 k, .int .i64 s] 23))
      generalize V2.heap.size = go at *
      obtain ⟨V3, hV3⟩ : ∃ V3, V2.alloc (.cells #[.int .i64 op, .int .i64 0, .int .i64 1, .int .i64 0, .int .i64 k, .int .i64 s] 23) = V3 := ⟨_, rfl⟩
      rw [hV3] at HN3 HB3 HX3 ⊢
      clear hV3 x0 x1 x2 hz HX2 HB2
      obtain ⟨x0, x1, x2⟩ : V3.cell? ⟨gx, 0, none⟩ = some (.int .i64 a) ∧ V3.cell? ⟨gx, 1, none⟩ = some (.int .i64 b) ∧ V3.cell? ⟨gx, 2, none⟩ = some (.int .i64 c) := ⟨HX3.out.cell 0 rfl, HX3.out.cell 1 rfl, HX3.out.cell 2 rfl⟩
      obtain ⟨e0, e1, e2, e3, e4, e5⟩ := six_of HN3.out
      dsimp only at e0 e1 e2 e3 e4 e5
      go_region_held3 (fun w' => (w'.cell? ⟨gx, 0, none⟩ = some (.int .i64 a) ∧ w'.cell? ⟨gx, 1, none⟩ = some (.int .i64 b) ∧ w'.cell? ⟨gx, 2, none⟩ = some (.int .i64 c)) ∧ w'.cell? ⟨go, 0, none⟩ = some (.int .i64 op) ∧ w'.cell? ⟨go, 1, none⟩ = some (.int .i64 0) ∧ w'.cell? ⟨go, 2, none⟩ = some (.int .i64 1) ∧ w'.cell? ⟨go, 3, none⟩ = some (.int .i64 0) ∧ w'.cell? ⟨go, 4, none⟩ = some (.int .i64 k) ∧ w'.cell? ⟨go, 5, none⟩ = some (.int .i64 s))
        (first | exact ⟨⟨x0, x1, x2⟩, e0, e1, e2, e3, e4, e5⟩ | go_keep)
        (fail)
      · clear x0 x1 x2 e0 e1 e2 e3 e4 e5 HX3 HN3
        have hD4 := HasC.new (V3.alloc (.cells #[.int .i64 1, .int .i64 0, .int .i64 0, .int .i64 0, .int .i64 a, .int .i64 0, .int .i64 1, .int .i64 0, .int .i64 0, .int .i64 0, .int .i64 b, .int .i64 0, .int .i64 1, .int .i64 0, .int .i64 0, .int .i64 0, .int .i64 c, .int .i64 0, .int .i64 op, .int .i64 0, .int .i64 1, .int .i64 0, .int .i64 k, .int .i64 s] 23)) 33 (cd 1 3 (some ⟨V3.heap.size, 0, none⟩) 4 4 3)
        rw [World.size_alloc] at hD4
        have hI4 : HasC ((V3.alloc (.cells #[.int .i64 1, .int .i64 0, .int .i64 0, .int .i64 0, .int .i64 a, .int .i64 0, .int .i64 1, .int .i64 0, .int .i64 0, .int .i64 0, .int .i64 b, .int .i64 0, .int .i64 1, .int .i64 0, .int .i64 0, .int .i64 0, .int .i64 c, .int .i64 0, .int .i64 op, .int .i64 0, .int .i64 1, .int .i64 0, .int .i64 k, .int .i64 s] 23)).alloc (.cells (cd 1 3 (some ⟨V3.heap.size, 0, none⟩) 4 4 3) 33)) (V3.heap.size) 23 (is6 [nuI a, nuI b, nuI c, ⟨op, 0, 1, 0, k, s⟩]).toArray := (HasC.new V3 23 #[.int .i64 1, .int .i64 0, .int .i64 0, .int .i64 0, .int .i64 a, .int .i64 0, .int .i64 1, .int .i64 0, .int .i64 0, .int .i64 0, .int .i64 b, .int .i64 0, .int .i64 1, .int .i64 0, .int .i64 0, .int .i64 0, .int .i64 c, .int .i64 0, .int .i64 op, .int .i64 0, .int .i64 1, .int .i64 0, .int .i64 k, .int .i64 s]).alloc (.cells (cd 1 3 (some ⟨V3.heap.size, 0, none⟩) 4 4 3) 33)
        have hB4 := bel HB3.out (bel (bel1 V3 (.cells #[.int .i64 1, .int .i64 0, .int .i64 0, .int .i64 0, .int .i64 a, .int .i64 0, .int .i64 1, .int .i64 0, .int .i64 0, .int .i64 0, .int .i64 b, .int .i64 0, .int .i64 1, .int .i64 0, .int .i64 0, .int .i64 0, .int .i64 c, .int .i64 0, .int .i64 op, .int .i64 0, .int .i64 1, .int .i64 0, .int .i64 k, .int .i64 s] 23)) (bel1 _ (.cells (cd 1 3 (some ⟨V3.heap.size, 0, none⟩) 4 4 3) 33)))
        have HD4 := hide (hD4.below (below_drew _))
        have HI4 := hide (Cde.has_ins (hI4.below (below_drew _)) (by simp))
        have HB4 := hide (bel hB4 (below_drew _))
        clear hD4 hI4 hB4 HB3
        obtain ⟨V4, hV4⟩ : ∃ V4, (((V3.alloc (.cells #[.int .i64 1, .int .i64 0, .int .i64 0, .int .i64 0, .int .i64 a, .int .i64 0, .int .i64 1, .int .i64 0, .int .i64 0, .int .i64 0, .int .i64 b, .int .i64 0, .int .i64 1, .int .i64 0, .int .i64 0, .int .i64 0, .int .i64 c, .int .i64 0, .int .i64 op, .int .i64 0, .int .i64 1, .int .i64 0, .int .i64 k, .int .i64 s] 23)).alloc (.cells (cd 1 3 (some ⟨V3.heap.size, 0, none⟩) 4 4 3) 33)).drew) = V4 := ⟨_, rfl⟩
        rw [hV4] at HD4 HI4 HB4 ⊢
        clear hV4
        simp only [List.length_cons, List.length_nil] at HI4
        generalize [nuI a, nuI b, nuI c, ⟨op, 0, 1, 0, k, s⟩] = D at *
        generalize V3.heap.size + 1 = bd at *
        generalize V3.heap.size = gl at *
        obtain ⟨y0, y1, y2, y3⟩ := four_of HD4.out
        rcases HWays.out with ⟨w1, w2⟩ | ⟨w1, w2, w3⟩ | ⟨w1, w2, w3, w4, w5⟩
        · have HFo := hide (ffold_no 1 3 3 HI4.out w2 (by decide))
          have HCk := hide fun V (h : Ins V (some ⟨gl, 0, none⟩) 4 4 D) => Cde.ccheck_any 1 3 3 h
          rw [w1] at HCk
          clear w1 w2 HWays
          go_wp2_with fail
          refine HFo.out.mono ?_
          rintro e9 V5 ⟨a1, c1, rfl, hb5⟩
          have HB5 := hide (bel (bel HB4.out hb5) (bel1 V5 (.cells (cd 0 0 a1 0 c1 0) 33)))
          have HI5 := hide ((HI4.out.later hb5).later (bel1 V5 (.cells (cd 0 0 a1 0 c1 0) 33)))
          have hz5 := (HD4.out.below hb5).lt
          obtain ⟨z0, z1, z2, z3⟩ := four_of (HD4.out.below hb5)
          clear hb5 y0 y1 y2 y3 HFo
          go_wp2_with fail
          refine (HCk.out _ HI5.out).mono ?_
          rintro e9 V6 ⟨rfl, hb6⟩
          have HB6 := hide (bel HB5.out hb6)
          clear hb6 z0 z1 z2 z3
          go_wp2_with fail
          go_ret
          exact ⟨rfl, HB6.out⟩
        · have HFo := hide (ffold_no 1 3 3 HI4.out w3 w2)
          have HCk := hide fun V (h : Ins V (some ⟨gl, 0, none⟩) 4 4 D) => Cde.ccheck_any 1 3 3 h
          rw [w1] at HCk
          have q1 : (er != 0) = true := by simpa using w2
          have q2 : (er == er) = true := by simp
          clear w1 w2 w3 HWays
          go_wp2_with fail
          refine HFo.out.mono ?_
          rintro e9 V5 ⟨a1, c1, rfl, hb5⟩
          have HB5 := hide (bel (bel HB4.out hb5) (bel1 V5 (.cells (cd 0 0 a1 0 c1 0) 33)))
          have HI5 := hide ((HI4.out.later hb5).later (bel1 V5 (.cells (cd 0 0 a1 0 c1 0) 33)))
          have HE5 := hide (HasC.new V5 33 (cd 0 0 a1 0 c1 0))
          have hz5 := (HD4.out.below hb5).lt
          obtain ⟨z0, z1, z2, z3⟩ := four_of (HD4.out.below hb5)
          clear hb5 y0 y1 y2 y3 HFo
          go_wp2_with fail
          refine (HCk.out _ HI5.out).mono ?_
          rintro e9 V6 ⟨rfl, hb6⟩
          have HB6 := hide (bel HB5.out hb6)
          obtain ⟨t0, t1, t2, t3⟩ := four_of (HE5.out.below hb6)
          clear hb6 z0 z1 z2 z3
          go_wp2_with fail
          go_ret
          exact ⟨rfl, HB6.out⟩
        · have HFo := hide (ffold_ok 1 3 3 HI4.out w3)
          rw [w4, w5] at HFo
          have HCk := hide fun V (h : Ins V (some ⟨gl, 0, none⟩) 4 4 D) => Cde.ccheck_any 1 3 3 h
          rw [w1] at HCk
          subst w2
          clear w1 w3 w4 w5 HWays
          go_wp2_with fail
          refine HFo.out.mono ?_
          rintro e9 V5 ⟨a1, c1, rfl, hO, hb5⟩
          obtain ⟨a1', c1', e', hI0, -⟩ := Ins.of_owns hO
          cases e'
          have hbn := bel1 V5 (.cells (cd 1 3 a1 4 c1 3) 33)
          have HB5 := hide (bel (bel HB4.out hb5) hbn)
          have HI5 := hide ((HI4.out.later hb5).later hbn)
          have HJ5 := hide (hI0.later hbn)
          have HE5 := hide (HasC.new V5 33 (cd 1 3 a1 4 c1 3))
          have hz5 := (HD4.out.below hb5).lt
          obtain ⟨z0, z1, z2, z3⟩ := four_of (HD4.out.below hb5)
          clear hb5 hbn hO hI0 y0 y1 y2 y3 HFo
          go_wp2_with fail
          refine (HCk.out _ HI5.out).mono ?_
          rintro e9 V6 ⟨rfl, hb6⟩
          have HB6 := hide (bel HB5.out hb6)
          obtain ⟨t0, t1, t2, t3⟩ := four_of (HE5.out.below hb6)
          obtain ⟨gb, ob, rfl, hgl, hat⟩ := (HJ5.out.later hb6).at (by decide)
          obtain ⟨s0, s1, s2, s3, s4, s5⟩ := hat 3 (by decide)
          change V6.cell? ⟨gb, ob + 18, none⟩ = some (.int .i64 1) at s0
          change V6.cell? ⟨gb, ob + 18 + 1, none⟩ = some (.int .i64 0) at s1
          change V6.cell? ⟨gb, ob + 18 + 2, none⟩ = some (.int .i64 0) at s2
          change V6.cell? ⟨gb, ob + 18 + 3, none⟩ = some (.int .i64 0) at s3
          change V6.cell? ⟨gb, ob + 18 + 4, none⟩ = some (.int .i64 v) at s4
          change V6.cell? ⟨gb, ob + 18 + 5, none⟩ = some (.int .i64 0) at s5
          clear hb6 z0 z1 z2 z3 hat
          have q9 : (v == v) = true := by simp
          go_wp2_with fail
          go_ret
          exact ⟨rfl, HB6.out⟩
      · clear x0 x1 x2 e0 e1 e2 e3 e4 e5 HX3 HN3
        have hD4 := (HasC.new V3 33 (cd 1 3 (some ⟨V3.heap.size + 1, 0, none⟩) 4 4 3)).alloc (.cells #[.int .i64 1, .int .i64 0, .int .i64 0, .int .i64 0, .int .i64 a, .int .i64 0, .int .i64 1, .int .i64 0, .int .i64 0, .int .i64 0, .int .i64 b, .int .i64 0, .int .i64 1, .int .i64 0, .int .i64 0, .int .i64 0, .int .i64 c, .int .i64 0, .int .i64 op, .int .i64 0, .int .i64 1, .int .i64 0, .int .i64 k, .int .i64 s] 23)
        have hI4 : HasC ((V3.alloc (.cells (cd 1 3 (some ⟨V3.heap.size + 1, 0, none⟩) 4 4 3) 33)).alloc (.cells #[.int .i64 1, .int .i64 0, .int .i64 0, .int .i64 0, .int .i64 a, .int .i64 0, .int .i64 1, .int .i64 0, .int .i64 0, .int .i64 0, .int .i64 b, .int .i64 0, .int .i64 1, .int .i64 0, .int .i64 0, .int .i64 0, .int .i64 c, .int .i64 0, .int .i64 op, .int .i64 0, .int .i64 1, .int .i64 0, .int .i64 k, .int .i64 s] 23)) (V3.heap.size + 1) 23 (is6 [nuI a, nuI b, nuI c, ⟨op, 0, 1, 0, k, s⟩]).toArray := has_new1 V3 (.cells (cd 1 3 (some ⟨V3.heap.size + 1, 0, none⟩) 4 4 3) 33) 23 #[.int .i64 1, .int .i64 0, .int .i64 0, .int .i64 0, .int .i64 a, .int .i64 0, .int .i64 1, .int .i64 0, .int .i64 0, .int .i64 0, .int .i64 b, .int .i64 0, .int .i64 1, .int .i64 0, .int .i64 0, .int .i64 0, .int .i64 c, .int .i64 0, .int .i64 op, .int .i64 0, .int .i64 1, .int .i64 0, .int .i64 k, .int .i64 s]
        have hB4 := bel HB3.out (bel (bel1 V3 (.cells (cd 1 3 (some ⟨V3.heap.size + 1, 0, none⟩) 4 4 3) 33)) (bel1 _ (.cells #[.int .i64 1, .int .i64 0, .int .i64 0, .int .i64 0, .int .i64 a, .int .i64 0, .int .i64 1, .int .i64 0, .int .i64 0, .int .i64 0, .int .i64 b, .int .i64 0, .int .i64 1, .int .i64 0, .int .i64 0, .int .i64 0, .int .i64 c, .int .i64 0, .int .i64 op, .int .i64 0, .int .i64 1, .int .i64 0, .int .i64 k, .int .i64 s] 23)))
        have HD4 := hide (hD4.below (below_drew _))
        have HI4 := hide (Cde.has_ins (hI4.below (below_drew _)) (by simp))
        have HB4 := hide (bel hB4 (below_drew _))
        clear hD4 hI4 hB4 HB3
        obtain ⟨V4, hV4⟩ : ∃ V4, (((V3.alloc (.cells (cd 1 3 (some ⟨V3.heap.size + 1, 0, none⟩) 4 4 3) 33)).alloc (.cells #[.int .i64 1, .int .i64 0, .int .i64 0, .int .i64 0, .int .i64 a, .int .i64 0, .int .i64 1, .int .i64 0, .int .i64 0, .int .i64 0, .int .i64 b, .int .i64 0, .int .i64 1, .int .i64 0, .int .i64 0, .int .i64 0, .int .i64 c, .int .i64 0, .int .i64 op, .int .i64 0, .int .i64 1, .int .i64 0, .int .i64 k, .int .i64 s] 23)).drew) = V4 := ⟨_, rfl⟩
        rw [hV4] at HD4 HI4 HB4 ⊢
        clear hV4
        simp only [List.length_cons, List.length_nil] at HI4
        generalize [nuI a, nuI b, nuI c, ⟨op, 0, 1, 0, k, s⟩] = D at *
        generalize V3.heap.size + 1 = gl at *
        generalize V3.heap.size = bd at *
        obtain ⟨y0, y1, y2, y3⟩ := four_of HD4.out
        rcases HWays.out with ⟨w1, w2⟩ | ⟨w1, w2, w3⟩ | ⟨w1, w2, w3, w4, w5⟩
        · have HFo := hide (ffold_no 1 3 3 HI4.out w2 (by decide))
          have HCk := hide fun V (h : Ins V (some ⟨gl, 0, none⟩) 4 4 D) => Cde.ccheck_any 1 3 3 h
          rw [w1] at HCk
          clear w1 w2 HWays
          go_wp2_with fail
          refine HFo.out.mono ?_
          rintro e9 V5 ⟨a1, c1, rfl, hb5⟩
          have HB5 := hide (bel (bel HB4.out hb5) (bel1 V5 (.cells (cd 0 0 a1 0 c1 0) 33)))
          have HI5 := hide ((HI4.out.later hb5).later (bel1 V5 (.cells (cd 0 0 a1 0 c1 0) 33)))
          have hz5 := (HD4.out.below hb5).lt
          obtain ⟨z0, z1, z2, z3⟩ := four_of (HD4.out.below hb5)
          clear hb5 y0 y1 y2 y3 HFo
          go_wp2_with fail
          refine (HCk.out _ HI5.out).mono ?_
          rintro e9 V6 ⟨rfl, hb6⟩
          have HB6 := hide (bel HB5.out hb6)
          clear hb6 z0 z1 z2 z3
          go_wp2_with fail
          go_ret
          exact ⟨rfl, HB6.out⟩
        · have HFo := hide (ffold_no 1 3 3 HI4.out w3 w2)
          have HCk := hide fun V (h : Ins V (some ⟨gl, 0, none⟩) 4 4 D) => Cde.ccheck_any 1 3 3 h
          rw [w1] at HCk
          have q1 : (er != 0) = true := by simpa using w2
          have q2 : (er == er) = true := by simp
          clear w1 w2 w3 HWays
          go_wp2_with fail
          refine HFo.out.mono ?_
          rintro e9 V5 ⟨a1, c1, rfl, hb5⟩
          have HB5 := hide (bel (bel HB4.out hb5) (bel1 V5 (.cells (cd 0 0 a1 0 c1 0) 33)))
          have HI5 := hide ((HI4.out.later hb5).later (bel1 V5 (.cells (cd 0 0 a1 0 c1 0) 33)))
          have HE5 := hide (HasC.new V5 33 (cd 0 0 a1 0 c1 0))
          have hz5 := (HD4.out.below hb5).lt
          obtain ⟨z0, z1, z2, z3⟩ := four_of (HD4.out.below hb5)
          clear hb5 y0 y1 y2 y3 HFo
          go_wp2_with fail
          refine (HCk.out _ HI5.out).mono ?_
          rintro e9 V6 ⟨rfl, hb6⟩
          have HB6 := hide (bel HB5.out hb6)
          obtain ⟨t0, t1, t2, t3⟩ := four_of (HE5.out.below hb6)
          clear hb6 z0 z1 z2 z3
          go_wp2_with fail
          go_ret
          exact ⟨rfl, HB6.out⟩
        · have HFo := hide (ffold_ok 1 3 3 HI4.out w3)
          rw [w4, w5] at HFo
          have HCk := hide fun V (h : Ins V (some ⟨gl, 0, none⟩) 4 4 D) => Cde.ccheck_any 1 3 3 h
          rw [w1] at HCk
          subst w2
          clear w1 w3 w4 w5 HWays
          go_wp2_with fail
          refine HFo.out.mono ?_
          rintro e9 V5 ⟨a1, c1, rfl, hO, hb5⟩
          obtain ⟨a1', c1', e', hI0, -⟩ := Ins.of_owns hO
          cases e'
          have hbn := bel1 V5 (.cells (cd 1 3 a1 4 c1 3) 33)
          have HB5 := hide (bel (bel HB4.out hb5) hbn)
          have HI5 := hide ((HI4.out.later hb5).later hbn)
          have HJ5 := hide (hI0.later hbn)
          have HE5 := hide (HasC.new V5 33 (cd 1 3 a1 4 c1 3))
          have hz5 := (HD4.out.below hb5).lt
          obtain ⟨z0, z1, z2, z3⟩ := four_of (HD4.out.below hb5)
          clear hb5 hbn hO hI0 y0 y1 y2 y3 HFo
          go_wp2_with fail
          refine (HCk.out _ HI5.out).mono ?_
          rintro e9 V6 ⟨rfl, hb6⟩
          have HB6 := hide (bel HB5.out hb6)
          obtain ⟨t0, t1, t2, t3⟩ := four_of (HE5.out.below hb6)
          obtain ⟨gb, ob, rfl, hgl, hat⟩ := (HJ5.out.later hb6).at (by decide)
          obtain ⟨s0, s1, s2, s3, s4, s5⟩ := hat 3 (by decide)
          change V6.cell? ⟨gb, ob + 18, none⟩ = some (.int .i64 1) at s0
          change V6.cell? ⟨gb, ob + 18 + 1, none⟩ = some (.int .i64 0) at s1
          change V6.cell? ⟨gb, ob + 18 + 2, none⟩ = some (.int .i64 0) at s2
          change V6.cell? ⟨gb, ob + 18 + 3, none⟩ = some (.int .i64 0) at s3
          change V6.cell? ⟨gb, ob + 18 + 4, none⟩ = some (.int .i64 v) at s4
          change V6.cell? ⟨gb, ob + 18 + 5, none⟩ = some (.int .i64 0) at s5
          clear hb6 z0 z1 z2 z3 hat
          have q9 : (v == v) = true := by simp
          go_wp2_with fail
          go_ret
          exact ⟨rfl, HB6.out⟩
    · have e' : Ytjfcdfjegjplhaa.Spn.ar op = 3 := e
      rw [e'] at HAr
      have hDe : numL op k s a b c = [nuI a, nuI b, nuI c, ⟨op, 0, 1, 2, k, s⟩] := by simp [numL, opI, e]
      go_enter Try.func6, Try.ntmps6
      go_wp2_with fail
      refine (HAr.out _).mono ?_
      rintro e9 w1 ⟨rfl, hw1⟩
      subst hw1
      go_wp2_with fail
      refine (HA.out _).mono ?_
      rintro e9 V1 ⟨rfl, hb1⟩
      have hx0 : HasC (V1.alloc (.cells #[.int .i64 a, .int .i64 b, .int .i64 c] 3)) V1.heap.size 3 (zA ([a, b, c] ++ [])) := HasC.new _ _ _
      have hvl := Ytjfcdfjegjplhaa.Spn.value_any op k s (some ⟨V1.heap.size, 0, none⟩) 3 3 [a, b, c] _ (spn (Cde.z_pre hx0 rfl))
      have hbx := bel hb1 (bel1 V1 (.cells #[.int .i64 a, .int .i64 b, .int .i64 c] 3))
      have HBx := hide hbx
      have HX0 := hide hx0
      have hnx : numX op a b c = [a, b, c] := by unfold numX; rw [e]; rfl
      obtain ⟨⟨v, er⟩, hZ⟩ : ∃ Z, vl op k s (numX op a b c) = Z := ⟨_, rfl⟩
      have hZ' : Ytjfcdfjegjplhaa.Spn.valZ op k s [a, b, c] = (v, er) := by rw [← hnx]; exact hZ
      rw [hZ'] at hvl
      have HVl := hide hvl
      have HWays := hide (num_ways hDe h1 ha hb hc hZ)
      clear hx0 hbx hb1 hnx hZ hZ' wa wb wc HAr hvl hDe
      go_wp2_with fail
      refine HVl.out.mono ?_
      rintro e9 V2 ⟨rfl, hb⟩
      have HX2 := hide (HX0.out.below hb)
      have HB2 := hide (bel HBx.out hb)
      obtain ⟨x0, x1, x2⟩ : V2.cell? ⟨V1.heap.size, 0, none⟩ = some (.int .i64 a) ∧ V2.cell? ⟨V1.heap.size, 1, none⟩ = some (.int .i64 b) ∧ V2.cell? ⟨V1.heap.size, 2, none⟩ = some (.int .i64 c) := ⟨HX2.out.cell 0 rfl, HX2.out.cell 1 rfl, HX2.out.cell 2 rfl⟩
      have hz := HX2.out.lt
      clear hb HX0 HBx HVl
      generalize V1.heap.size = gx at *
      go_upto_region 11 with fail
      have HN3 : Hid (HasC (V2.alloc (.cells #[.int .i64 op, .int .i64 0, .int .i64 1, .int .i64 2, .int .i64 k, .int .i64 s] 23)) V2.heap.size 23 (ia ⟨op, 0, 1, 2, k, s⟩)) := hide (HasC.new _ _ _)
      have HB3 := hide (bel HB2.out (bel1 V2 (.cells #[.int .i64 op, .int .i64 0, .int .i64 1, .int .i64 2, .int .i64 k, .int .i64 s] 23)))
      have HX3 := hide (HX2.out.alloc (.cells #[.int .i64 op, .int .i64 0, .int .i64 1, .int .i64 2, .int .i64 k, .int .i64 s] 23))
      generalize V2.heap.size = go at *
      obtain ⟨V3, hV3⟩ : ∃ V3, V2.alloc (.cells #[.int .i64 op, .int .i64 0, .int .i64 1, .int .i64 2, .int .i64 k, .int .i64 s] 23) = V3 := ⟨_, rfl⟩
      rw [hV3] at HN3 HB3 HX3 ⊢
      clear hV3 x0 x1 x2 hz HX2 HB2
      obtain ⟨x0, x1, x2⟩ : V3.cell? ⟨gx, 0, none⟩ = some (.int .i64 a) ∧ V3.cell? ⟨gx, 1, none⟩ = some (.int .i64 b) ∧ V3.cell? ⟨gx, 2, none⟩ = some (.int .i64 c) := ⟨HX3.out.cell 0 rfl, HX3.out.cell 1 rfl, HX3.out.cell 2 rfl⟩
      obtain ⟨e0, e1, e2, e3, e4, e5⟩ := six_of HN3.out
      dsimp only at e0 e1 e2 e3 e4 e5
      go_region_held3 (fun w' => (w'.cell? ⟨gx, 0, none⟩ = some (.int .i64 a) ∧ w'.cell? ⟨gx, 1, none⟩ = some (.int .i64 b) ∧ w'.cell? ⟨gx, 2, none⟩ = some (.int .i64 c)) ∧ w'.cell? ⟨go, 0, none⟩ = some (.int .i64 op) ∧ w'.cell? ⟨go, 1, none⟩ = some (.int .i64 0) ∧ w'.cell? ⟨go, 2, none⟩ = some (.int .i64 1) ∧ w'.cell? ⟨go, 3, none⟩ = some (.int .i64 2) ∧ w'.cell? ⟨go, 4, none⟩ = some (.int .i64 k) ∧ w'.cell? ⟨go, 5, none⟩ = some (.int .i64 s))
        (first | exact ⟨⟨x0, x1, x2⟩, e0, e1, e2, e3, e4, e5⟩ | go_keep)
        (fail)
      · clear x0 x1 x2 e0 e1 e2 e3 e4 e5 HX3 HN3
        have hD4 := HasC.new (V3.alloc (.cells #[.int .i64 1, .int .i64 0, .int .i64 0, .int .i64 0, .int .i64 a, .int .i64 0, .int .i64 1, .int .i64 0, .int .i64 0, .int .i64 0, .int .i64 b, .int .i64 0, .int .i64 1, .int .i64 0, .int .i64 0, .int .i64 0, .int .i64 c, .int .i64 0, .int .i64 op, .int .i64 0, .int .i64 1, .int .i64 2, .int .i64 k, .int .i64 s] 23)) 33 (cd 1 3 (some ⟨V3.heap.size, 0, none⟩) 4 4 3)
        rw [World.size_alloc] at hD4
        have hI4 : HasC ((V3.alloc (.cells #[.int .i64 1, .int .i64 0, .int .i64 0, .int .i64 0, .int .i64 a, .int .i64 0, .int .i64 1, .int .i64 0, .int .i64 0, .int .i64 0, .int .i64 b, .int .i64 0, .int .i64 1, .int .i64 0, .int .i64 0, .int .i64 0, .int .i64 c, .int .i64 0, .int .i64 op, .int .i64 0, .int .i64 1, .int .i64 2, .int .i64 k, .int .i64 s] 23)).alloc (.cells (cd 1 3 (some ⟨V3.heap.size, 0, none⟩) 4 4 3) 33)) (V3.heap.size) 23 (is6 [nuI a, nuI b, nuI c, ⟨op, 0, 1, 2, k, s⟩]).toArray := (HasC.new V3 23 #[.int .i64 1, .int .i64 0, .int .i64 0, .int .i64 0, .int .i64 a, .int .i64 0, .int .i64 1, .int .i64 0, .int .i64 0, .int .i64 0, .int .i64 b, .int .i64 0, .int .i64 1, .int .i64 0, .int .i64 0, .int .i64 0, .int .i64 c, .int .i64 0, .int .i64 op, .int .i64 0, .int .i64 1, .int .i64 2, .int .i64 k, .int .i64 s]).alloc (.cells (cd 1 3 (some ⟨V3.heap.size, 0, none⟩) 4 4 3) 33)
        have hB4 := bel HB3.out (bel (bel1 V3 (.cells #[.int .i64 1, .int .i64 0, .int .i64 0, .int .i64 0, .int .i64 a, .int .i64 0, .int .i64 1, .int .i64 0, .int .i64 0, .int .i64 0, .int .i64 b, .int .i64 0, .int .i64 1, .int .i64 0, .int .i64 0, .int .i64 0, .int .i64 c, .int .i64 0, .int .i64 op, .int .i64 0, .int .i64 1, .int .i64 2, .int .i64 k, .int .i64 s] 23)) (bel1 _ (.cells (cd 1 3 (some ⟨V3.heap.size, 0, none⟩) 4 4 3) 33)))
        have HD4 := hide (hD4.below (below_drew _))
        have HI4 := hide (Cde.has_ins (hI4.below (below_drew _)) (by simp))
        have HB4 := hide (bel hB4 (below_drew _))
        clear hD4 hI4 hB4 HB3
        obtain ⟨V4, hV4⟩ : ∃ V4, (((V3.alloc (.cells #[.int .i64 1, .int .i64 0, .int .i64 0, .int .i64 0, .int .i64 a, .int .i64 0, .int .i64 1, .int .i64 0, .int .i64 0, .int .i64 0, .int .i64 b, .int .i64 0, .int .i64 1, .int .i64 0, .int .i64 0, .int .i64 0, .int .i64 c, .int .i64 0, .int .i64 op, .int .i64 0, .int .i64 1, .int .i64 2, .int .i64 k, .int .i64 s] 23)).alloc (.cells (cd 1 3 (some ⟨V3.heap.size, 0, none⟩) 4 4 3) 33)).drew) = V4 := ⟨_, rfl⟩
        rw [hV4] at HD4 HI4 HB4 ⊢
        clear hV4
        simp only [List.length_cons, List.length_nil] at HI4
        generalize [nuI a, nuI b, nuI c, ⟨op, 0, 1, 2, k, s⟩] = D at *
        generalize V3.heap.size + 1 = bd at *
        generalize V3.heap.size = gl at *
        obtain ⟨y0, y1, y2, y3⟩ := four_of HD4.out
        rcases HWays.out with ⟨w1, w2⟩ | ⟨w1, w2, w3⟩ | ⟨w1, w2, w3, w4, w5⟩
        · have HFo := hide (ffold_no 1 3 3 HI4.out w2 (by decide))
          have HCk := hide fun V (h : Ins V (some ⟨gl, 0, none⟩) 4 4 D) => Cde.ccheck_any 1 3 3 h
          rw [w1] at HCk
          clear w1 w2 HWays
          go_wp2_with fail
          refine HFo.out.mono ?_
          rintro e9 V5 ⟨a1, c1, rfl, hb5⟩
          have HB5 := hide (bel (bel HB4.out hb5) (bel1 V5 (.cells (cd 0 0 a1 0 c1 0) 33)))
          have HI5 := hide ((HI4.out.later hb5).later (bel1 V5 (.cells (cd 0 0 a1 0 c1 0) 33)))
          have hz5 := (HD4.out.below hb5).lt
          obtain ⟨z0, z1, z2, z3⟩ := four_of (HD4.out.below hb5)
          clear hb5 y0 y1 y2 y3 HFo
          go_wp2_with fail
          refine (HCk.out _ HI5.out).mono ?_
          rintro e9 V6 ⟨rfl, hb6⟩
          have HB6 := hide (bel HB5.out hb6)
          clear hb6 z0 z1 z2 z3
          go_wp2_with fail
          go_ret
          exact ⟨rfl, HB6.out⟩
        · have HFo := hide (ffold_no 1 3 3 HI4.out w3 w2)
          have HCk := hide fun V (h : Ins V (some ⟨gl, 0, none⟩) 4 4 D) => Cde.ccheck_any 1 3 3 h
          rw [w1] at HCk
          have q1 : (er != 0) = true := by simpa using w2
          have q2 : (er == er) = true := by simp
          clear w1 w2 w3 HWays
          go_wp2_with fail
          refine HFo.out.mono ?_
          rintro e9 V5 ⟨a1, c1, rfl, hb5⟩
          have HB5 := hide (bel (bel HB4.out hb5) (bel1 V5 (.cells (cd 0 0 a1 0 c1 0) 33)))
          have HI5 := hide ((HI4.out.later hb5).later (bel1 V5 (.cells (cd 0 0 a1 0 c1 0) 33)))
          have HE5 := hide (HasC.new V5 33 (cd 0 0 a1 0 c1 0))
          have hz5 := (HD4.out.below hb5).lt
          obtain ⟨z0, z1, z2, z3⟩ := four_of (HD4.out.below hb5)
          clear hb5 y0 y1 y2 y3 HFo
          go_wp2_with fail
          refine (HCk.out _ HI5.out).mono ?_
          rintro e9 V6 ⟨rfl, hb6⟩
          have HB6 := hide (bel HB5.out hb6)
          obtain ⟨t0, t1, t2, t3⟩ := four_of (HE5.out.below hb6)
          clear hb6 z0 z1 z2 z3
          go_wp2_with fail
          go_ret
          exact ⟨rfl, HB6.out⟩
        · have HFo := hide (ffold_ok 1 3 3 HI4.out w3)
          rw [w4, w5] at HFo
          have HCk := hide fun V (h : Ins V (some ⟨gl, 0, none⟩) 4 4 D) => Cde.ccheck_any 1 3 3 h
          rw [w1] at HCk
          subst w2
          clear w1 w3 w4 w5 HWays
          go_wp2_with fail
          refine HFo.out.mono ?_
          rintro e9 V5 ⟨a1, c1, rfl, hO, hb5⟩
          obtain ⟨a1', c1', e', hI0, -⟩ := Ins.of_owns hO
          cases e'
          have hbn := bel1 V5 (.cells (cd 1 3 a1 4 c1 3) 33)
          have HB5 := hide (bel (bel HB4.out hb5) hbn)
          have HI5 := hide ((HI4.out.later hb5).later hbn)
          have HJ5 := hide (hI0.later hbn)
          have HE5 := hide (HasC.new V5 33 (cd 1 3 a1 4 c1 3))
          have hz5 := (HD4.out.below hb5).lt
          obtain ⟨z0, z1, z2, z3⟩ := four_of (HD4.out.below hb5)
          clear hb5 hbn hO hI0 y0 y1 y2 y3 HFo
          go_wp2_with fail
          refine (HCk.out _ HI5.out).mono ?_
          rintro e9 V6 ⟨rfl, hb6⟩
          have HB6 := hide (bel HB5.out hb6)
          obtain ⟨t0, t1, t2, t3⟩ := four_of (HE5.out.below hb6)
          obtain ⟨gb, ob, rfl, hgl, hat⟩ := (HJ5.out.later hb6).at (by decide)
          obtain ⟨s0, s1, s2, s3, s4, s5⟩ := hat 3 (by decide)
          change V6.cell? ⟨gb, ob + 18, none⟩ = some (.int .i64 1) at s0
          change V6.cell? ⟨gb, ob + 18 + 1, none⟩ = some (.int .i64 0) at s1
          change V6.cell? ⟨gb, ob + 18 + 2, none⟩ = some (.int .i64 0) at s2
          change V6.cell? ⟨gb, ob + 18 + 3, none⟩ = some (.int .i64 0) at s3
          change V6.cell? ⟨gb, ob + 18 + 4, none⟩ = some (.int .i64 v) at s4
          change V6.cell? ⟨gb, ob + 18 + 5, none⟩ = some (.int .i64 0) at s5
          clear hb6 z0 z1 z2 z3 hat
          have q9 : (v == v) = true := by simp
          go_wp2_with fail
          go_ret
          exact ⟨rfl, HB6.out⟩
      · clear x0 x1 x2 e0 e1 e2 e3 e4 e5 HX3 HN3
        have hD4 := (HasC.new V3 33 (cd 1 3 (some ⟨V3.heap.size + 1, 0, none⟩) 4 4 3)).alloc (.cells #[.int .i64 1, .int .i64 0, .int .i64 0, .int .i64 0, .int .i64 a, .int .i64 0, .int .i64 1, .int .i64 0, .int .i64 0, .int .i64 0, .int .i64 b, .int .i64 0, .int .i64 1, .int .i64 0, .int .i64 0, .int .i64 0, .int .i64 c, .int .i64 0, .int .i64 op, .int .i64 0, .int .i64 1, .int .i64 2, .int .i64 k, .int .i64 s] 23)
        have hI4 : HasC ((V3.alloc (.cells (cd 1 3 (some ⟨V3.heap.size + 1, 0, none⟩) 4 4 3) 33)).alloc (.cells #[.int .i64 1, .int .i64 0, .int .i64 0, .int .i64 0, .int .i64 a, .int .i64 0, .int .i64 1, .int .i64 0, .int .i64 0, .int .i64 0, .int .i64 b, .int .i64 0, .int .i64 1, .int .i64 0, .int .i64 0, .int .i64 0, .int .i64 c, .int .i64 0, .int .i64 op, .int .i64 0, .int .i64 1, .int .i64 2, .int .i64 k, .int .i64 s] 23)) (V3.heap.size + 1) 23 (is6 [nuI a, nuI b, nuI c, ⟨op, 0, 1, 2, k, s⟩]).toArray := has_new1 V3 (.cells (cd 1 3 (some ⟨V3.heap.size + 1, 0, none⟩) 4 4 3) 33) 23 #[.int .i64 1, .int .i64 0, .int .i64 0, .int .i64 0, .int .i64 a, .int .i64 0, .int .i64 1, .int .i64 0, .int .i64 0, .int .i64 0, .int .i64 b, .int .i64 0, .int .i64 1, .int .i64 0, .int .i64 0, .int .i64 0, .int .i64 c, .int .i64 0, .int .i64 op, .int .i64 0, .int .i64 1, .int .i64 2, .int .i64 k, .int .i64 s]
        have hB4 := bel HB3.out (bel (bel1 V3 (.cells (cd 1 3 (some ⟨V3.heap.size + 1, 0, none⟩) 4 4 3) 33)) (bel1 _ (.cells #[.int .i64 1, .int .i64 0, .int .i64 0, .int .i64 0, .int .i64 a, .int .i64 0, .int .i64 1, .int .i64 0, .int .i64 0, .int .i64 0, .int .i64 b, .int .i64 0, .int .i64 1, .int .i64 0, .int .i64 0, .int .i64 0, .int .i64 c, .int .i64 0, .int .i64 op, .int .i64 0, .int .i64 1, .int .i64 2, .int .i64 k, .int .i64 s] 23)))
        have HD4 := hide (hD4.below (below_drew _))
        have HI4 := hide (Cde.has_ins (hI4.below (below_drew _)) (by simp))
        have HB4 := hide (bel hB4 (below_drew _))
        clear hD4 hI4 hB4 HB3
        obtain ⟨V4, hV4⟩ : ∃ V4, (((V3.alloc (.cells (cd 1 3 (some ⟨V3.heap.size + 1, 0, none⟩) 4 4 3) 33)).alloc (.cells #[.int .i64 1, .int .i64 0, .int .i64 0, .int .i64 0, .int .i64 a, .int .i64 0, .int .i64 1, .int .i64 0, .int .i64 0, .int .i64 0, .int .i64 b, .int .i64 0, .int .i64 1, .int .i64 0, .int .i64 0, .int .i64 0, .int .i64 c, .int .i64 0, .int .i64 op, .int .i64 0, .int .i64 1, .int .i64 2, .int .i64 k, .int .i64 s] 23)).drew) = V4 := ⟨_, rfl⟩
        rw [hV4] at HD4 HI4 HB4 ⊢
        clear hV4
        simp only [List.length_cons, List.length_nil] at HI4
        generalize [nuI a, nuI b, nuI c, ⟨op, 0, 1, 2, k, s⟩] = D at *
        generalize V3.heap.size + 1 = gl at *
        generalize V3.heap.size = bd at *
        obtain ⟨y0, y1, y2, y3⟩ := four_of HD4.out
        rcases HWays.out with ⟨w1, w2⟩ | ⟨w1, w2, w3⟩ | ⟨w1, w2, w3, w4, w5⟩
        · have HFo := hide (ffold_no 1 3 3 HI4.out w2 (by decide))
          have HCk := hide fun V (h : Ins V (some ⟨gl, 0, none⟩) 4 4 D) => Cde.ccheck_any 1 3 3 h
          rw [w1] at HCk
          clear w1 w2 HWays
          go_wp2_with fail
          refine HFo.out.mono ?_
          rintro e9 V5 ⟨a1, c1, rfl, hb5⟩
          have HB5 := hide (bel (bel HB4.out hb5) (bel1 V5 (.cells (cd 0 0 a1 0 c1 0) 33)))
          have HI5 := hide ((HI4.out.later hb5).later (bel1 V5 (.cells (cd 0 0 a1 0 c1 0) 33)))
          have hz5 := (HD4.out.below hb5).lt
          obtain ⟨z0, z1, z2, z3⟩ := four_of (HD4.out.below hb5)
          clear hb5 y0 y1 y2 y3 HFo
          go_wp2_with fail
          refine (HCk.out _ HI5.out).mono ?_
          rintro e9 V6 ⟨rfl, hb6⟩
          have HB6 := hide (bel HB5.out hb6)
          clear hb6 z0 z1 z2 z3
          go_wp2_with fail
          go_ret
          exact ⟨rfl, HB6.out⟩
        · have HFo := hide (ffold_no 1 3 3 HI4.out w3 w2)
          have HCk := hide fun V (h : Ins V (some ⟨gl, 0, none⟩) 4 4 D) => Cde.ccheck_any 1 3 3 h
          rw [w1] at HCk
          have q1 : (er != 0) = true := by simpa using w2
          have q2 : (er == er) = true := by simp
          clear w1 w2 w3 HWays
          go_wp2_with fail
          refine HFo.out.mono ?_
          rintro e9 V5 ⟨a1, c1, rfl, hb5⟩
          have HB5 := hide (bel (bel HB4.out hb5) (bel1 V5 (.cells (cd 0 0 a1 0 c1 0) 33)))
          have HI5 := hide ((HI4.out.later hb5).later (bel1 V5 (.cells (cd 0 0 a1 0 c1 0) 33)))
          have HE5 := hide (HasC.new V5 33 (cd 0 0 a1 0 c1 0))
          have hz5 := (HD4.out.below hb5).lt
          obtain ⟨z0, z1, z2, z3⟩ := four_of (HD4.out.below hb5)
          clear hb5 y0 y1 y2 y3 HFo
          go_wp2_with fail
          refine (HCk.out _ HI5.out).mono ?_
          rintro e9 V6 ⟨rfl, hb6⟩
          have HB6 := hide (bel HB5.out hb6)
          obtain ⟨t0, t1, t2, t3⟩ := four_of (HE5.out.below hb6)
          clear hb6 z0 z1 z2 z3
          go_wp2_with fail
          go_ret
          exact ⟨rfl, HB6.out⟩
        · have HFo := hide (ffold_ok 1 3 3 HI4.out w3)
          rw [w4, w5] at HFo
          have HCk := hide fun V (h : Ins V (some ⟨gl, 0, none⟩) 4 4 D) => Cde.ccheck_any 1 3 3 h
          rw [w1] at HCk
          subst w2
          clear w1 w3 w4 w5 HWays
          go_wp2_with fail
          refine HFo.out.mono ?_
          rintro e9 V5 ⟨a1, c1, rfl, hO, hb5⟩
          obtain ⟨a1', c1', e', hI0, -⟩ := Ins.of_owns hO
          cases e'
          have hbn := bel1 V5 (.cells (cd 1 3 a1 4 c1 3) 33)
          have HB5 := hide (bel (bel HB4.out hb5) hbn)
          have HI5 := hide ((HI4.out.later hb5).later hbn)
          have HJ5 := hide (hI0.later hbn)
          have HE5 := hide (HasC.new V5 33 (cd 1 3 a1 4 c1 3))
          have hz5 := (HD4.out.below hb5).lt
          obtain ⟨z0, z1, z2, z3⟩ := four_of (HD4.out.below hb5)
          clear hb5 hbn hO hI0 y0 y1 y2 y3 HFo
          go_wp2_with fail
          refine (HCk.out _ HI5.out).mono ?_
          rintro e9 V6 ⟨rfl, hb6⟩
          have HB6 := hide (bel HB5.out hb6)
          obtain ⟨t0, t1, t2, t3⟩ := four_of (HE5.out.below hb6)
          obtain ⟨gb, ob, rfl, hgl, hat⟩ := (HJ5.out.later hb6).at (by decide)
          obtain ⟨s0, s1, s2, s3, s4, s5⟩ := hat 3 (by decide)
          change V6.cell? ⟨gb, ob + 18, none⟩ = some (.int .i64 1) at s0
          change V6.cell? ⟨gb, ob + 18 + 1, none⟩ = some (.int .i64 0) at s1
          change V6.cell? ⟨gb, ob + 18 + 2, none⟩ = some (.int .i64 0) at s2
          change V6.cell? ⟨gb, ob + 18 + 3, none⟩ = some (.int .i64 0) at s3
          change V6.cell? ⟨gb, ob + 18 + 4, none⟩ = some (.int .i64 v) at s4
          change V6.cell? ⟨gb, ob + 18 + 5, none⟩ = some (.int .i64 0) at s5
          clear hb6 z0 z1 z2 z3 hat
          have q9 : (v == v) = true := by simp
          go_wp2_with fail
          go_ret
          exact ⟨rfl, HB6.out⟩
  · rcases Cde.ar_five op with e | e | e | e | e
    · rw [e] at HAr
      go_enter Try.func6, Try.ntmps6
      go_wp2_with fail
      refine (HAr.out _).mono ?_
      rintro e9 w1 ⟨rfl, hw1⟩
      subst hw1
      go_wp2_with fail
      refine (HA.out _).mono ?_
      rintro e9 V1 ⟨rfl, hb1⟩
      go_wp2_with fail
      refine (HA.out _).mono ?_
      rintro e9 V2 ⟨rfl, hb2⟩
      go_wp2_with fail
      go_ret
      exact ⟨rfl, bel hb1 hb2⟩
    · rw [e] at HAr
      go_enter Try.func6, Try.ntmps6
      go_wp2_with fail
      refine (HAr.out _).mono ?_
      rintro e9 w1 ⟨rfl, hw1⟩
      subst hw1
      go_wp2_with fail
      refine (HA.out _).mono ?_
      rintro e9 V1 ⟨rfl, hb1⟩
      go_wp2_with fail
      refine (HA.out _).mono ?_
      rintro e9 V2 ⟨rfl, hb2⟩
      go_wp2_with fail
      go_ret
      exact ⟨rfl, bel hb1 hb2⟩
    · exact absurd (show 1 ≤ ar op by rw [ar, e]; decide) h1
    · exact absurd (show 1 ≤ ar op by rw [ar, e]; decide) h1
    · exact absurd (show 1 ≤ ar op by rw [ar, e]; decide) h1

end Go.Proofs.Fld
