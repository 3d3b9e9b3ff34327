/-
  check.spanOf.
-/
import Derived.Test.YtlhbgkaknfhlnaaGreatZEaA
import Derived.Test.YtlhbgkaknfhlnaaGreatZE2
import Derived.Test.YtlhbgkaknfhlnaaGreatZSpH
namespace Go.Proofs.YtlhbgkaknfhlnaaGreat
open Go.RowKit Go.IntWalk Lx Pz
set_option linter.unusedVariables false

abbrev sp2 (p : Int × Int) : Array Value := #[.int .i64 p.1, .int .i64 p.2]
theorem sp_args {S : Sps} {n : Nd} {k : Nat} (hk : k < (prts n).length) : ((prts n).map fun p => S.getD p.toNat (0, 0)).take (k + 1) = ((prts n).map fun p => S.getD p.toNat (0, 0)).take k ++ [S.getD ((prts n).getD k 0).toNat (0, 0)] := by
  rw [take_snoc (0, 0) (by simpa using hk)]
  congr 2
  simp [List.getD_eq_getElem?_getD, List.getElem?_map, List.getElem?_eq_getElem hk]
theorem prts_len {n : Nd} {k : Nat} (hp : prZ n.op = k) (h3 : k ≤ 3) : (prts n).length = k := by
  unfold prts; rw [hp]; simp; omega
theorem prts_at {n : Nd} {k j : Nat} (hp : prZ n.op = k) (h3 : k ≤ 3) (hj : j < k) : (ab3 n)[j]? = some (.int .i64 ((prts n).getD j 0)) ∧ (prts n).getD j 0 ∈ prts n := by
  have hl := prts_len hp h3
  refine ⟨?_, ?_⟩
  · unfold prts
    rw [hp]
    rcases (show k = 1 ∨ k = 2 ∨ k = 3 by omega) with rfl | rfl | rfl
    · obtain rfl : j = 0 := by omega
      rfl
    · rcases (show j = 0 ∨ j = 1 by omega) with rfl | rfl <;> rfl
    · rcases (show j = 0 ∨ j = 1 ∨ j = 2 by omega) with rfl | rfl | rfl <;> rfl
  · rw [List.getD_eq_getElem?_getD, List.getElem?_eq_getElem (by omega)]
    exact List.getElem_mem _

theorem two_of {W : World} {b : Nat} {t : TypeId} {x y : Value} (h : HasC W b t #[x, y]) : W.cell? ⟨b, 0, none⟩ = some x ∧ W.cell? ⟨b, 1, none⟩ = some y ∧ W.frozen? ⟨b, 0, none⟩ = false ∧ W.frozen? ⟨b, 1, none⟩ = false :=
  Spn.facts2 h
theorem put_two {w w2 : World} {b : Nat} {t : TypeId} {p q : Value} (h : HasC w2 b t #[p, q]) (hB : Below w.heap.size w w2) (hb : w.heap.size ≤ b) (x y : Int) :
    ((w2.setCell ⟨b, 0, none⟩ (.int .i64 x)).setCell ⟨b, 1, none⟩ (.int .i64 y)).cell? ⟨b, 0, none⟩ = some (.int .i64 x) ∧ ((w2.setCell ⟨b, 0, none⟩ (.int .i64 x)).setCell ⟨b, 1, none⟩ (.int .i64 y)).cell? ⟨b, 1, none⟩ = some (.int .i64 y) ∧
    Below w.heap.size w ((w2.setCell ⟨b, 0, none⟩ (.int .i64 x)).setCell ⟨b, 1, none⟩ (.int .i64 y)) :=
  Spn.stored2 h hB hb x y

theorem oth2 {W : World} {b r : Nat} {t : TypeId} {cs : Array Value} (h : HasC W b t cs) (hr : b ≠ r) (x y : Value) : HasC ((W.setCell ⟨r, 0, none⟩ x).setCell ⟨r, 1, none⟩ y) b t cs := (h.other (p := ⟨r, 0, none⟩) hr x).other (p := ⟨r, 1, none⟩) hr y
theorem set2 {W : World} {b : Nat} {t : TypeId} {p q : Value} (h : HasC W b t #[p, q]) (x y : Value) : HasC ((W.setCell ⟨b, 0, none⟩ x).setCell ⟨b, 1, none⟩ y) b t #[x, y] := (h.set 0 x).set 1 y

set_option maxRecDepth 100000 in
set_option maxHeartbeats 4000000 in
/-- A leaf's span. -/
theorem spanOf_leaf (f d : Int) (n : Nd) (hm : Knd.May f d) (v : Value) (hv : ∃ a k c, v = .slice a k c) (h : n.op = 1 ∨ n.op = 2 ∨ n.op = 3) (BS : List Int) (S : Sps) (W : World) :
    Calls Tryz.prog 54 #[.agg (kdA f d), .agg (ndA n), v] W fun e W' => e = .returned (Spn.spV (spN f d BS S n)) ∧ Below W.heap.size W W' := by
  obtain ⟨a, kk, c, rfl⟩ := hv
  obtain ⟨o, pa, pb, pc, pk, back, co, x, y⟩ := n
  simp only at h
  have hb1 := bel1 W (.cells (kdA f d) 23)
  have hb2 := bel hb1 (bel1 (W.alloc (.cells (kdA f d) 23)) (.cells (ndA ⟨o, pa, pb, pc, pk, back, co, x, y⟩) 78))
  have hb3 := bel hb2 (bel1 ((W.alloc (.cells (kdA f d) 23)).alloc (.cells (ndA ⟨o, pa, pb, pc, pk, back, co, x, y⟩) 78)) (.cells #[.int .i64 0, .int .i64 0] 40))
  have HB0 := hide hb3
  have HBk := hide hb2
  have HK0 := hide (((HasC.new W 23 (kdA f d)).alloc (.cells (ndA ⟨o, pa, pb, pc, pk, back, co, x, y⟩) 78)).alloc (.cells #[.int .i64 0, .int .i64 0] 40))
  have HR0 : Hid (HasC (((W.alloc (.cells (kdA f d) 23)).alloc (.cells (ndA ⟨o, pa, pb, pc, pk, back, co, x, y⟩) 78)).alloc (.cells #[.int .i64 0, .int .i64 0] 40)) (W.heap.size + 1 + 1) 40 #[.int .i64 0, .int .i64 0]) := by
    have := HasC.new ((W.alloc (.cells (kdA f d) 23)).alloc (.cells (ndA ⟨o, pa, pb, pc, pk, back, co, x, y⟩) 78)) 40 #[.int .i64 0, .int .i64 0]
    simp only [World.size_alloc] at this
    exact hide this
  clear hb1 hb2 hb3
  rcases h with rfl | rfl | rfl
  · rw [show spN f d BS S ⟨1, pa, pb, pc, pk, back, co, x, y⟩ = ((pk, pk), 0) from rfl]
    go_enter Tryz.func54, Tryz.ntmps54
    go_wp2
    exact bodyPost_ret (v := .tuple #[.agg #[.int .i64 pk, .int .i64 pk], .int .i64 0]) (by simp [results, Tryz.results54, go_sem]) rfl ⟨rfl, bel HBk.out (bel1 _ _)⟩
  · rw [show spN f d BS S ⟨2, pa, pb, pc, pk, back, co, x, y⟩ = ((Knd.inZ f d pk).getD (0, 0), 0) from rfl]
    have HI := hide fun w => Knd.input_any f d pk w
    unfold Knd.inV at HI
    obtain ⟨⟨lo, hi⟩, hp⟩ : ∃ p, (Knd.inZ f d pk).getD (0, 0) = p := ⟨_, rfl⟩
    rw [hp] at HI ⊢
    generalize (Knd.inZ f d pk).isSome = q at HI
    clear hp
    go_enter Tryz.func54, Tryz.ntmps54
    go_wp2_with fail
    refine (HI.out _).mono ?_
    rintro e V1 ⟨rfl, hb⟩
    have HB1 := hide (bel HB0.out hb)
    have hz := (HR0.out.below hb).lt
    obtain ⟨-, -, hB⟩ := put_two (HR0.out.below hb) HB1.out (by omega) lo hi
    have h3 := (set2 (HR0.out.below hb) (.int .i64 lo) (.int .i64 hi)).alloc (.cells #[.int .i64 lo, .int .i64 hi] 40)
    have r0 := h3.cell 0 rfl
    have r1 := h3.cell 1 rfl
    have HB2 := hide (bel hB (bel1 _ (.cells #[.int .i64 lo, .int .i64 hi] 40)))
    have HR2 := hide r0
    have HR3 := hide r1
    clear r0 r1 h3 hB
    obtain ⟨c0, c1, c2, c3⟩ := two_of (HR0.out.below hb)
    clear hb
    go_wp2_with fail
    have r0 := HR2.out
    have r1 := HR3.out
    exact bodyPost_ret (v := .tuple #[.agg #[.int .i64 lo, .int .i64 hi], .int .i64 0]) (by simp only [results, Tryz.results54]; simp [go_sem, r0, r1]) rfl ⟨rfl, HB2.out⟩
  · rw [show spN f d BS S ⟨3, pa, pb, pc, pk, back, co, x, y⟩ = ((Knd.lowZ f d, Knd.highZ f d), 0) from rfl]
    have HLo := hide fun w => Knd.low_any f d w
    have HHi := hide fun w => Knd.high_any f d w
    generalize Knd.lowZ f d = lo at *
    generalize Knd.highZ f d = hi at *
    have x0 := HK0.out.cell 0 rfl
    have y0 := HK0.out.cell 1 rfl
    go_enter Tryz.func54, Tryz.ntmps54
    go_wp2_with fail
    obtain ⟨W0, hW0⟩ : ∃ W0, (((W.alloc (.cells (kdA f d) 23)).alloc (.cells (ndA ⟨3, pa, pb, pc, pk, back, co, x, y⟩) 78)).alloc (.cells #[.int .i64 0, .int .i64 0] 40)) = W0 := ⟨_, rfl⟩
    rw [hW0] at HR0 HK0 HB0 x0 y0 ⊢
    clear hW0
    have HRd : Hid (HasC W0.drew (W.heap.size + 1 + 1) 40 #[.int .i64 0, .int .i64 0]) := HR0.out
    have HKd : Hid (HasC W0.drew W.heap.size 23 (kdA f d)) := HK0.out
    have HBd := hide HB0.out.drew
    go_region_held3 (fun w' => w'.cell? ⟨W.heap.size, 0, none⟩ = some (.int .i64 f) ∧ w'.cell? ⟨W.heap.size, 1, none⟩ = some (.int .i64 d))
      (first | exact ⟨x0, y0⟩ | exact ⟨x3, y3⟩ | exact ⟨x4, y4⟩ | exact ⟨(oth2 HK4.out (by omega) _ _).cell 0 rfl, (oth2 HK4.out (by omega) _ _).cell 1 rfl⟩ | go_keep)
      ((first
        | (go_at_call 62; refine (HLo.out _).mono ?_; rintro e w3 ⟨rfl, hb3⟩; have HR3 := hide (HRd.out.below hb3); have HK3 := hide (HKd.out.below hb3); have HB3 := hide (bel HBd.out hb3); clear hb3; obtain ⟨x3, y3, -, -⟩ := two_of HK3.out)
        | (go_at_call 63; refine (HHi.out _).mono ?_; rintro e w4 ⟨rfl, hb4⟩; have HR4 := hide (HR3.out.below hb4); have HK4 := hide (HK3.out.below hb4); have HB4 := hide (bel HB3.out hb4); clear hb4; obtain ⟨x4, y4, -, -⟩ := two_of HK4.out; obtain ⟨g0, g1, g2, g3⟩ := two_of HR4.out)))
    all_goals
      obtain ⟨r0, r1, hB⟩ := put_two HR4.out HB4.out (by omega) lo hi
      go_wp2
      exact bodyPost_ret (v := .tuple #[.agg #[.int .i64 lo, .int .i64 hi], .int .i64 0]) (by simp [results, Tryz.results54, go_sem, r0, r1]) rfl ⟨rfl, hB⟩

set_option maxRecDepth 100000 in
set_option maxHeartbeats 4000000 in
/-- An operator's span. -/
theorem spanOf_in (f d : Int) (n : Nd) {BS : List Int} {i sl sc : Nat} {a : Option Addr} {S : Sps} {W : World} (hn : Wn BS i n) (h5 : 5 ≤ n.op) (hS : Spn.Spans W a sl sc S) (hi : i ≤ sl) :
    Calls Tryz.prog 54 #[.agg (kdA f d), .agg (ndA n), .slice a sl sc] W fun e W' => e = .returned (Spn.spV (spN f d BS S n)) ∧ Below W.heap.size W W' := by
  obtain ⟨k, hk⟩ : ∃ k : Nat, prZ n.op = k := ⟨(prZ n.op).toNat, by have := hn.pr; omega⟩
  have h3 : k ≤ 3 := by
    have : prZ n.op ≤ 3 := by unfold prZ arZ; repeat' split <;> omega
    omega
  have har : arZ n.op = k := by rw [hn.ar (by omega), hk]
  have hsl : sl ≤ 9223372036854775807 := by have := hS.le; have := hS.max; unfold maxLen at *; omega
  rw [show spN f d BS S n = Spn.ofZ n.op 0 0 ((prts n).map fun p => S.getD p.toNat (0, 0)) by unfold spN; rw [if_neg (by omega), if_neg (by omega), if_neg (by omega), if_neg (by omega)]]
  have HPt := hide fun j hj => prts_at (n := n) (j := j) hk h3 hj
  have HPl := hide (prts_len hk h3)
  have HPr := hide hn.prt
  have HSg := hide fun j hj => sp_args (S := S) (n := n) (k := j) hj
  obtain ⟨L, hL⟩ : ∃ L, ((prts n).map fun p => S.getD p.toNat (0, 0)) = L := ⟨_, rfl⟩
  have HLl : Hid (L.length = k) := hide (by rw [← hL, List.length_map, HPl.out])
  rw [hL] at HSg ⊢
  have HPO := hide fun w => partsOf_any n k har h3 w
  have q1 : (n.op == 1) = false := by simp; omega
  have q2 : (n.op == 2) = false := by simp; omega
  have q3 : (n.op == 3) = false := by simp; omega
  have hb1 := bel1 W (.cells (kdA f d) 23)
  have hb2 := bel hb1 (bel1 (W.alloc (.cells (kdA f d) 23)) (.cells (ndA n) 78))
  have hb3 := bel hb2 (bel1 ((W.alloc (.cells (kdA f d) 23)).alloc (.cells (ndA n) 78)) (.cells #[.int .i64 0, .int .i64 0] 40))
  have HB0 := hide hb3
  have HN0 : Hid (HasC (((W.alloc (.cells (kdA f d) 23)).alloc (.cells (ndA n) 78)).alloc (.cells #[.int .i64 0, .int .i64 0] 40)) (W.heap.size + 1) 78 (ndA n)) := by
    have := (HasC.new (W.alloc (.cells (kdA f d) 23)) 78 (ndA n)).alloc (.cells #[.int .i64 0, .int .i64 0] 40)
    simp only [World.size_alloc] at this
    exact hide this
  have HR0 : Hid (HasC (((W.alloc (.cells (kdA f d) 23)).alloc (.cells (ndA n) 78)).alloc (.cells #[.int .i64 0, .int .i64 0] 40)) (W.heap.size + 1 + 1) 40 #[.int .i64 0, .int .i64 0]) := by
    have := HasC.new ((W.alloc (.cells (kdA f d) 23)).alloc (.cells (ndA n) 78)) 40 #[.int .i64 0, .int .i64 0]
    simp only [World.size_alloc] at this
    exact hide this
  have HS0 := hide (hS.later hb3)
  clear hb1 hb2 hb3 hS hL har hk hn h5
  go_enter Tryz.func54, Tryz.ntmps54
  go_wp2_with fail
  refine (HPO.out _).mono ?_
  rintro e V1 ⟨g, rfl, -, hG, hb⟩
  have HG := hide hG
  have HR1 := hide (HR0.out.below hb)
  have HN1 := hide (HN0.out.below hb)
  have HB1 := hide (bel HB0.out hb)
  have HS1 := hide (HS0.out.later hb)
  have hgl := hG.lt
  clear hG hb HR0 HN0 HB0 HS0 HPO
  go_wp2_with fail
  go_loopw [10, 42] (fun v i wr => ∃ j : Nat, j ≤ k ∧ i = .int .i64 j ∧ Hid (Spn.Es V1 wr v j (L.take j))) (fun _ i _ => k - (intOf i).toNat)
  case atStart => exact ⟨0, Nat.zero_le _, rfl, hide (Spn.Es.start V1)⟩
  case round =>
    obtain ⟨j, hj, rfl, HE⟩ := hrel
    rename World => V
    by_cases hlt : j < k
    · have cp := (HG.out.below HE.out.bel).cell j (HPt.out j hlt).1
      obtain ⟨p0, p1⟩ := HPr.out _ (HPt.out j hlt).2
      have HT := hide (HSg.out j (by rw [HPl.out]; exact hlt))
      obtain ⟨q, hq⟩ : ∃ q : Nat, (prts n).getD j 0 = (q : Int) := ⟨((prts n).getD j 0).toNat, by omega⟩
      rw [hq] at cp p1 HT
      simp only [Int.toNat_natCast] at p1 HT
      obtain ⟨b, off, rfl, -, hcs⟩ := (HS1.out.later HE.out.bel).at (by omega)
      obtain ⟨s0, s1⟩ := hcs q (by omega)
      generalize S.getD q (0, 0) = sv at *
      obtain ⟨lo, hi2⟩ := sv
      simp only at s0 s1
      have j0 : (0 : Int) ≤ j := by omega
      have j1 : (j : Int) < k := by omega
      have j2 : (j : Int) < 3 := by omega
      have i0 : (0 : Int) ≤ q := by omega
      have i1 : (q : Int) < sl := by omega
      clear hcs p0 p1 hq
      go_wp2_with (at_builtin; refine Spn.list_span (w := V1) (L := L.take j) rfl _ _ rfl rfl (HE.out.alloc _) _ lo hi2 rfl (Spn.HasC.new _ _ _) (by omega) ?_; intro g2 cap2 w2 HE2 hsz)
      go_roundw
      case rel => exact ⟨j + 1, by omega, by go_num, hide (by rw [HT.out]; exact HE2)⟩
      case measure => simp [intOf]; omega
    · obtain rfl : j = k := by omega
      have e : L.take j = L := List.take_of_length_le (by rw [HLl.out]; exact Nat.le_refl _)
      have HE1 := HE.out
      rw [e] at HE1
      obtain ⟨va, vc, rfl, hA⟩ := Spn.Spans.of_owns HE1.a HLl.out
      have HOf := hide (Spn.of_any n.op 0 0 _ _ _ _ _ hA)
      have HR2 := hide (HR1.out.below HE1.bel)
      have HB2 := hide (bel HB1.out HE1.bel)
      have x0 := (HN1.out.below HE1.bel).cell 0 rfl
      obtain ⟨⟨⟨lo, hi2⟩, er⟩, hZ⟩ : ∃ Z, Spn.ofZ n.op 0 0 L = Z := ⟨_, rfl⟩
      rw [hZ] at HOf
      have HZ := hide hZ
      clear hZ hA e HE HE1
      go_wp2_with fail
      refine HOf.out.mono ?_
      rintro e V2 ⟨rfl, hb⟩
      have HR3 := hide (HR2.out.below hb)
      have HB3 := hide (bel HB2.out hb)
      obtain ⟨g0, g1, g2, g3⟩ := two_of HR3.out
      clear hb
      go_wp2_with fail
      obtain ⟨r0, r1, hB⟩ := put_two HR3.out HB3.out (by omega) lo hi2
      exact bodyPost_ret (v := .tuple #[.agg #[.int .i64 lo, .int .i64 hi2], .int .i64 er]) (by simp [results, Tryz.results54, go_sem, r0, r1]) rfl ⟨by rw [HZ.out], hB⟩

end Go.Proofs.YtlhbgkaknfhlnaaGreat
