/-
  verify.spanOf: the span of one register.
-/
import Derived.Test.YtlhbgkaknfhlnaaY1
import Derived.Deep.RegionHeld3
namespace Go.Proofs.Vfy
open Go.RowKit Go.IntWalk Ytlhbgkaknfhlnaa.Knd
open Cde (In i0 ia kd agL arN okI zA abc at6 six_of has_new1)
set_option linter.unusedVariables false

theorem asS_len (S : Sps) (n : In) : (asS S n).length = arN n := by rw [asS, List.length_map, Cde.agL_len]
theorem asS_snoc {S : Sps} {n : In} {k : Nat} (hk : k < arN n) : (asS S n).take (k + 1) = (asS S n).take k ++ [S.getD (Cde.rgN n k).toNat (0, 0)] := by
  rw [Cde.take_snoc (0, 0) (by rw [asS_len]; exact hk), ← Cde.agL_at n k hk]
  congr 2
  simp [asS, List.getD_eq_getElem?_getD, List.getElem?_map, List.getElem?_eq_getElem (show k < (agL n).length by rw [Cde.agL_len]; exact hk)]

set_option maxRecDepth 100000 in
set_option maxHeartbeats 4000000 in
/-- A number, an input, a place. -/
theorem yleaf (f d : Int) (n : In) (a : Option Addr) (sl sc : Nat) (h : n.op = 1 ∨ n.op = 2 ∨ n.op = 3) (S : Sps) (W : World) :
    Calls Try.prog 23 #[.agg (kd f d), .agg (ia n), .slice a sl sc] W fun e W' => e = .returned (Ytlhbgkaknfhlnaa.Spn.spV (sgI f d S n)) ∧ Below W.heap.size W W' := by
  obtain ⟨o, pa, pb, pc, pk, ps⟩ := n
  simp only at h
  have hb1 := bel1 W (.cells (kd f d) 23)
  have hb2 := bel hb1 (bel1 (W.alloc (.cells (kd f d) 23)) (.cells (ia ⟨o, pa, pb, pc, pk, ps⟩) 47))
  have hb3 := bel hb2 (bel1 ((W.alloc (.cells (kd f d) 23)).alloc (.cells (ia ⟨o, pa, pb, pc, pk, ps⟩) 47)) (.cells #[.int .i64 0, .int .i64 0] 42))
  have HB0 := hide hb3
  have HBk := hide hb2
  have HK0 := hide (((HasC.new W 23 (kd f d)).alloc (.cells (ia ⟨o, pa, pb, pc, pk, ps⟩) 47)).alloc (.cells #[.int .i64 0, .int .i64 0] 42))
  have HR0 : Hid (HasC (((W.alloc (.cells (kd f d) 23)).alloc (.cells (ia ⟨o, pa, pb, pc, pk, ps⟩) 47)).alloc (.cells #[.int .i64 0, .int .i64 0] 42)) (W.heap.size + 1 + 1) 42 #[.int .i64 0, .int .i64 0]) := by
    have := HasC.new ((W.alloc (.cells (kd f d) 23)).alloc (.cells (ia ⟨o, pa, pb, pc, pk, ps⟩) 47)) 42 #[.int .i64 0, .int .i64 0]
    simp only [World.size_alloc] at this
    exact hide this
  clear hb1 hb2 hb3
  rcases h with rfl | rfl | rfl
  · rw [show sgI f d S ⟨1, pa, pb, pc, pk, ps⟩ = ((pk, pk), 0) from rfl]
    go_enter Try.func23, Try.ntmps23
    go_wp2
    exact bodyPost_ret (v := .tuple #[.agg #[.int .i64 pk, .int .i64 pk], .int .i64 0]) (by simp [results, Try.results23, go_sem]) rfl ⟨rfl, bel HBk.out (bel1 _ _)⟩
  · rw [show sgI f d S ⟨2, pa, pb, pc, pk, ps⟩ = ((inZ f d pk).getD (0, 0), 0) from rfl]
    have HI := hide fun w => input_any f d pk w
    unfold inV at HI
    obtain ⟨⟨lo, hi⟩, hp⟩ : ∃ p, (inZ f d pk).getD (0, 0) = p := ⟨_, rfl⟩
    rw [hp] at HI ⊢
    generalize (inZ f d pk).isSome = q at HI
    clear hp
    go_enter Try.func23, Try.ntmps23
    go_wp2_with fail
    refine (HI.out _).mono ?_
    rintro e V1 ⟨rfl, hb⟩
    have HB1 := hide (bel HB0.out hb)
    have hz := (HR0.out.below hb).lt
    obtain ⟨-, -, hB⟩ := put_two (HR0.out.below hb) HB1.out (by omega) lo hi
    have h3 := (set2 (HR0.out.below hb) (.int .i64 lo) (.int .i64 hi)).alloc (.cells #[.int .i64 lo, .int .i64 hi] 42)
    have r0 := h3.cell 0 rfl
    have r1 := h3.cell 1 rfl
    have HB2 := hide (bel hB (bel1 _ (.cells #[.int .i64 lo, .int .i64 hi] 42)))
    have HR2 := hide r0
    have HR3 := hide r1
    clear r0 r1 h3 hB
    obtain ⟨c0, c1, c2, c3⟩ := two_of (HR0.out.below hb)
    clear hb
    go_wp2_with fail
    have r0 := HR2.out
    have r1 := HR3.out
    exact bodyPost_ret (v := .tuple #[.agg #[.int .i64 lo, .int .i64 hi], .int .i64 0]) (by simp only [results, Try.results23]; simp [go_sem, r0, r1]) rfl ⟨rfl, HB2.out⟩
  · rw [show sgI f d S ⟨3, pa, pb, pc, pk, ps⟩ = ((lowZ f d, highZ f d), 0) from rfl]
    have HLo := hide fun w => low_any f d w
    have HHi := hide fun w => high_any f d w
    generalize lowZ f d = lo at *
    generalize highZ f d = hi at *
    have x0 := HK0.out.cell 0 rfl
    have y0 := HK0.out.cell 1 rfl
    go_enter Try.func23, Try.ntmps23
    go_wp2_with fail
    obtain ⟨W0, hW0⟩ : ∃ W0, (((W.alloc (.cells (kd f d) 23)).alloc (.cells (ia ⟨3, pa, pb, pc, pk, ps⟩) 47)).alloc (.cells #[.int .i64 0, .int .i64 0] 42)) = W0 := ⟨_, rfl⟩
    rw [hW0] at HR0 HK0 HB0 x0 y0 ⊢
    clear hW0
    have HRd : Hid (HasC W0.drew (W.heap.size + 1 + 1) 42 #[.int .i64 0, .int .i64 0]) := HR0.out
    have HKd : Hid (HasC W0.drew W.heap.size 23 (kd f d)) := HK0.out
    have HBd := hide HB0.out.drew
    go_region_held3 (fun w' => w'.cell? ⟨W.heap.size, 0, none⟩ = some (.int .i64 f) ∧ w'.cell? ⟨W.heap.size, 1, none⟩ = some (.int .i64 d))
      (first | exact ⟨x0, y0⟩ | exact ⟨x3, y3⟩ | exact ⟨x4, y4⟩ | exact ⟨(oth2 HK4.out (by omega) _ _).cell 0 rfl, (oth2 HK4.out (by omega) _ _).cell 1 rfl⟩ | go_keep)
      ((first
        | (go_at_call 19; refine (HLo.out _).mono ?_; rintro e w3 ⟨rfl, hb3⟩; have HR3 := hide (HRd.out.below hb3); have HK3 := hide (HKd.out.below hb3); have HB3 := hide (bel HBd.out hb3); clear hb3; obtain ⟨x3, y3, -, -⟩ := two_of HK3.out)
        | (go_at_call 20; refine (HHi.out _).mono ?_; rintro e w4 ⟨rfl, hb4⟩; have HR4 := hide (HR3.out.below hb4); have HK4 := hide (HK3.out.below hb4); have HB4 := hide (bel HB3.out hb4); clear hb4; obtain ⟨x4, y4, -, -⟩ := two_of HK4.out; obtain ⟨g0, g1, g2, g3⟩ := two_of HR4.out)))
    all_goals
      obtain ⟨r0, r1, hB⟩ := put_two HR4.out HB4.out (by omega) lo hi
      go_wp2
      exact bodyPost_ret (v := .tuple #[.agg #[.int .i64 lo, .int .i64 hi], .int .i64 0]) (by simp [results, Try.results23, go_sem, r0, r1]) rfl ⟨rfl, hB⟩

set_option maxRecDepth 100000 in
set_option maxHeartbeats 4000000 in
/-- An operator's span. -/
theorem yin (f d : Int) (n : In) {i sl sc : Nat} {a : Option Addr} {S : Sps} {W : World} (ho : okI n i = true) (h1 : n.op ≠ 1) (h2 : n.op ≠ 2) (h3 : n.op ≠ 3) (hS : Ytlhbgkaknfhlnaa.Spn.Spans W a sl sc S) (hi : i ≤ sl) :
    Calls Try.prog 23 #[.agg (kd f d), .agg (ia n), .slice a sl sc] W fun e W' => e = .returned (Ytlhbgkaknfhlnaa.Spn.spV (sgI f d S n)) ∧ Below W.heap.size W W' := by
  have hsl : sl ≤ 9223372036854775807 := by have := hS.le; have := hS.max; unfold maxLen at *; omega
  rw [show sgI f d S n = Ytlhbgkaknfhlnaa.Spn.ofZ n.op n.k n.s (asS S n) by unfold sgI; rw [if_neg h1, if_neg h2, if_neg h3]]
  have HRg := hide fun j hj => Cde.ok_reg ho (j := j) hj
  have HSg := hide fun j hj => asS_snoc (S := S) (n := n) (k := j) hj
  have HA3 := hide (Cde.arN_le n)
  have HAb := hide fun j (h : j < 3) => Cde.abc_at n j h
  have HLl := hide (asS_len S n)
  have HPO := hide fun w => Cde.cargs_ex n w
  have q1 : (n.op == 1) = false := by simpa using h1
  have q2 : (n.op == 2) = false := by simpa using h2
  have q3 : (n.op == 3) = false := by simpa using h3
  generalize asS S n = L at *
  generalize arN n = k at *
  have hb1 := bel1 W (.cells (kd f d) 23)
  have hb2 := bel hb1 (bel1 (W.alloc (.cells (kd f d) 23)) (.cells (ia n) 47))
  have hb3 := bel hb2 (bel1 ((W.alloc (.cells (kd f d) 23)).alloc (.cells (ia n) 47)) (.cells #[.int .i64 0, .int .i64 0] 42))
  have HB0 := hide hb3
  have HN0 : Hid (HasC (((W.alloc (.cells (kd f d) 23)).alloc (.cells (ia n) 47)).alloc (.cells #[.int .i64 0, .int .i64 0] 42)) (W.heap.size + 1) 47 (ia n)) := by
    have := (HasC.new (W.alloc (.cells (kd f d) 23)) 47 (ia n)).alloc (.cells #[.int .i64 0, .int .i64 0] 42)
    simp only [World.size_alloc] at this
    exact hide this
  have HR0 : Hid (HasC (((W.alloc (.cells (kd f d) 23)).alloc (.cells (ia n) 47)).alloc (.cells #[.int .i64 0, .int .i64 0] 42)) (W.heap.size + 1 + 1) 42 #[.int .i64 0, .int .i64 0]) := by
    have := HasC.new ((W.alloc (.cells (kd f d) 23)).alloc (.cells (ia n) 47)) 42 #[.int .i64 0, .int .i64 0]
    simp only [World.size_alloc] at this
    exact hide this
  have HS0 := hide (hS.later hb3)
  clear hb1 hb2 hb3 hS ho h1 h2 h3
  go_enter Try.func23, Try.ntmps23
  go_wp2_with fail
  refine (HPO.out _).mono ?_
  rintro e V1 ⟨g, rfl, -, hG, hb⟩
  have HG := hide hG
  have HR1 := hide (HR0.out.below hb)
  have HN1 := hide (HN0.out.below hb)
  have HB1 := hide (bel HB0.out hb)
  have HS1 := hide (HS0.out.later hb)
  have hgl := hG.lt
  clear hG hb HR0 HN0 HB0 HS0 HPO
  go_wp2_with fail
  go_loopw [10, 42] (fun v i wr => ∃ j : Nat, j ≤ k ∧ i = .int .i64 j ∧ Hid (Ytlhbgkaknfhlnaa.Spn.Es V1 wr v j (L.take j))) (fun _ i _ => k - (intOf i).toNat)
  case atStart => exact ⟨0, Nat.zero_le _, rfl, hide (Ytlhbgkaknfhlnaa.Spn.Es.start V1)⟩
  case round =>
    obtain ⟨j, hj, rfl, HE⟩ := hrel
    rename World => V
    by_cases hlt : j < k
    · have h33 : j < 3 := by have := HA3.out; omega
      have cp := (HG.out.below HE.out.bel).cell j (Cde.zA_get (abc n) j (by simp [abc]; omega))
      rw [HAb.out j h33] at cp
      obtain ⟨p0, p1⟩ := HRg.out j hlt
      have HT := hide (HSg.out j hlt)
      obtain ⟨q, hq⟩ : ∃ q : Nat, Cde.rgN n j = (q : Int) := ⟨(Cde.rgN n j).toNat, by omega⟩
      rw [hq] at cp p1 HT
      simp only [Int.toNat_natCast] at p1 HT
      obtain ⟨b, off, rfl, -, hcs⟩ := (HS1.out.later HE.out.bel).at (by omega)
      obtain ⟨s0, s1⟩ := hcs q (by omega)
      generalize S.getD q (0, 0) = sv at *
      obtain ⟨lo, hi2⟩ := sv
      simp only at s0 s1
      have j0 : (0 : Int) ≤ j := by omega
      have j1 : (j : Int) < k := by omega
      have j2 : (j : Int) < 3 := by omega
      have i0 : (0 : Int) ≤ q := by omega
      have i1 : (q : Int) < sl := by omega
      clear hcs p0 p1 hq
      go_wp2_with (at_builtin; refine Ytlhbgkaknfhlnaa.Spn.list_span (w := V1) (L := L.take j) rfl _ _ rfl rfl (HE.out.alloc _) _ lo hi2 rfl (Ytlhbgkaknfhlnaa.Spn.HasC.new _ _ _) (by omega) ?_; intro g2 cap2 w2 HE2 hsz)
      go_roundw
      case rel => exact ⟨j + 1, by omega, by go_num, hide (by rw [HT.out]; exact HE2)⟩
      case measure => simp [intOf]; omega
    · obtain rfl : j = k := by omega
      have e : L.take j = L := List.take_of_length_le (by rw [HLl.out]; exact Nat.le_refl _)
      have HE1 := HE.out
      rw [e] at HE1
      obtain ⟨va, vc, rfl, hA⟩ := Ytlhbgkaknfhlnaa.Spn.Spans.of_owns HE1.a HLl.out
      have HOf := hide (Ytlhbgkaknfhlnaa.Spn.of_any n.op n.k n.s _ _ _ _ _ hA)
      have HR2 := hide (HR1.out.below HE1.bel)
      have HB2 := hide (bel HB1.out HE1.bel)
      obtain ⟨x0, -, -, -, x4, x5⟩ := six_of (HN1.out.below HE1.bel)
      obtain ⟨⟨⟨lo, hi2⟩, er⟩, hZ⟩ : ∃ Z, Ytlhbgkaknfhlnaa.Spn.ofZ n.op n.k n.s L = Z := ⟨_, rfl⟩
      rw [hZ] at HOf
      have HZ := hide hZ
      clear hZ hA e HE HE1
      go_wp2_with fail
      refine HOf.out.mono ?_
      rintro e V2 ⟨rfl, hb⟩
      have HR3 := hide (HR2.out.below hb)
      have HB3 := hide (bel HB2.out hb)
      obtain ⟨g0, g1, g2, g3⟩ := two_of HR3.out
      clear hb
      go_wp2_with fail
      obtain ⟨r0, r1, hB⟩ := put_two HR3.out HB3.out (by omega) lo hi2
      exact bodyPost_ret (v := .tuple #[.agg #[.int .i64 lo, .int .i64 hi2], .int .i64 er]) (by simp [results, Try.results23, go_sem, r0, r1]) rfl ⟨by rw [HZ.out], hB⟩

/-- spanOf, whatever the instruction. -/
theorem yspan_any (f d : Int) {n : In} {i sl sc : Nat} {a : Option Addr} {S : Sps} {W : World} (ho : okI n i = true) (hS : Ytlhbgkaknfhlnaa.Spn.Spans W a sl sc S) (hi : i ≤ sl) :
    Calls Try.prog 23 #[.agg (kd f d), .agg (ia n), .slice a sl sc] W fun e W' => e = .returned (Ytlhbgkaknfhlnaa.Spn.spV (sgI f d S n)) ∧ Below W.heap.size W W' := by
  by_cases h : n.op = 1 ∨ n.op = 2 ∨ n.op = 3
  · exact yleaf f d n a sl sc h S W
  · exact yin f d n ho (by omega) (by omega) (by omega) hS hi

end Go.Proofs.Vfy
