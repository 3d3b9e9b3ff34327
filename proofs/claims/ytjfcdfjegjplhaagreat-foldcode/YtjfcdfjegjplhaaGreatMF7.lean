/-
  fold.folded: the new code of one that is taken.
-/
import Derived.Test.YtjfcdfjegjplhaaGreatMF5
import Derived.Test.YtjfcdfjegjplhaaGreatMFA
import Derived.Deep.CutRange
namespace Go.Proofs.Fld
open Go.RowKit Go.IntWalk YtjfcdfjegjplhaaGreat.Knd
open Cde (In i0 ia kd cd Ins at6 six_of four_of two_of has_new1 okI okT below_drew is6 i6 zA take_snoc)
open Vfy (vfE)
set_option linter.unusedVariables false

theorem foS_yes {f d : Int} {M : List In} {T : List Int} {n : In} {k : Nat} {x : Int} (hM : M.length = k) (h : knZ f d M (thI n T) = (x, true)) : foS f d (M, T) n = (M ++ [nuI x], T ++ [(k : Int)]) := by
  simp [foS, nwI, nwT, h, hM]
theorem foS_no {f d : Int} {M : List In} {T : List Int} {n : In} {k : Nat} {x : Int} (hM : M.length = k) (h : knZ f d M (thI n T) = (x, false)) : foS f d (M, T) n = (M ++ [thI n T], T ++ [fsZ k (lnZ M (thI n T))]) := by
  simp [foS, nwI, nwT, h, hM]

set_option maxRecDepth 100000 in
set_option maxHeartbeats 8000000 in
theorem ffolded_any (f d out : Int) {a : Option Addr} {n cap : Nat} {L : List In} {W : World} (hL : Ins W a n cap L) (h : vfE f d L out = 0) :
    Calls Tryz.prog 13 #[.agg (cd f d a n cap out)] W fun e W' => ∃ a' c', e = .returned (.agg (cd f d a' n c' (foO f d L out))) ∧ W'.ownsRow W.heap.size 39 6 (.slice a' n c') n (is6 (foF f d L).1) ∧ Below W.heap.size W W' := by
  obtain ⟨mc, -⟩ := Vfy.vf_parts h
  obtain ⟨-, m1, m2, o0, o1, -⟩ := Cde.mc_parts mc
  rw [hL.len] at m1 m2 o1
  obtain ⟨o, rfl⟩ : ∃ o : Nat, out = o := ⟨out.toNat, by omega⟩
  obtain ⟨cs1, hs1, hmk1⟩ := make_fs n (by omega)
  obtain ⟨cs2, hs2, hmk2⟩ := make_ti n (by omega)
  have HLI := hide hL
  have HLn := hide hL.len
  have HOk := hide fun k (hk : k < n) => fo_ok h (k := k) (by rw [hL.len]; exact hk)
  have HSu := hide fun k (hk : k < n) => foF_succ f d (L := L) (k := k) (by rw [hL.len]; exact hk)
  have HF0 : Hid (Fb W ((((W.alloc (.cells (cd f d a n cap (o : Int)) 26)).alloc (.cells cdz 26)).alloc (.cells cs1 39)).alloc (.cells cs2 3)) (cd f d a n cap (o : Int)) (.slice (some ⟨W.heap.size + 1 + 1, 0, none⟩) 0 n) (.slice (some ⟨W.heap.size + 1 + 1 + 1, 0, none⟩) 0 n) [] []) := by
    have b1 := bel1 W (.cells (cd f d a n cap (o : Int)) 26)
    have b2 := bel b1 (bel1 _ (.cells cdz 26))
    have b3 := bel b2 (bel1 _ (.cells cs1 39))
    have b4 := bel b3 (bel1 _ (.cells cs2 3))
    have h1 := ((HasC.new W 26 (cd f d a n cap (o : Int))).alloc (.cells cdz 26)).alloc (.cells cs1 39)
    have h2 := ((has_new1 W (.cells (cd f d a n cap (o : Int)) 26) 26 cdz).alloc (.cells cs1 39))
    have h3 := HasC.new ((W.alloc (.cells (cd f d a n cap (o : Int)) 26)).alloc (.cells cdz 26)) 39 cs1
    have h4 := HasC.new (((W.alloc (.cells (cd f d a n cap (o : Int)) 26)).alloc (.cells cdz 26)).alloc (.cells cs1 39)) 3 cs2
    rw [World.size_alloc, World.size_alloc] at h3
    rw [World.size_alloc, World.size_alloc, World.size_alloc] at h4
    exact ⟨h1.alloc _, h2.alloc _, own_start (h3.alloc _) hs1 (by omega) (by omega), own_start h4 hs2 (by omega) (by omega), b4⟩
  clear hL h mc hs1 hs2
  go_enter Tryz.func13, Tryz.ntmps13
  go_wp2_with fail
  clear hmk1 hmk2
  go_loopw [3, 4, 21] (fun mv tv i wr => ∃ (k gm cm gt ct : Nat) (M : List In) (T : List Int), k ≤ n ∧ i = .int .i64 k ∧ mv = .slice (some ⟨gm, 0, none⟩) k cm ∧ tv = .slice (some ⟨gt, 0, none⟩) k ct ∧ Hid (foF f d (L.take k) = (M, T)) ∧ Hid (M.length = k) ∧ Hid (T.length = k) ∧ Hid (Fb W wr (cd f d a n cap (o : Int)) (.slice (some ⟨gm, 0, none⟩) k cm) (.slice (some ⟨gt, 0, none⟩) k ct) M T)) (fun _ _ i _ => n - (intOf i).toNat)
  case atStart => exact ⟨0, _, _, _, _, [], [], Nat.zero_le _, rfl, rfl, rfl, hide rfl, hide rfl, hide rfl, HF0⟩
  case round =>
    obtain ⟨k, gm, cm, gt, ct, M, T, hk, rfl, rfl, rfl, HM, HMl, HTl, HF⟩ := hrel
    rename World => V
    clear HF0
    by_cases hlt : k < n
    · obtain ⟨b, off, rfl, -, hat⟩ := (HLI.out.later HF.out.lo).at (by omega)
      obtain ⟨e0, e1, e2, e3, e4, e5⟩ := hat k hlt
      clear hat
      have hi0 : (0 : Int) ≤ k := by omega
      have hi1 : (k : Int) < n := by omega
      have hOk := HOk.out k hlt
      have hSu := HSu.out k hlt
      rw [HM.out] at hOk hSu
      have HOk2 := hide hOk
      generalize L.getD k i0 = q at *
      have HY := hide fun x (h : knZ f d M (thI q T) = (x, true)) => hSu.trans (foS_yes HMl.out h)
      have HNo := hide fun x (h : knZ f d M (thI q T) = (x, false)) => hSu.trans (foS_no HMl.out h)
      have HC0 := hide (HF.out.with q)
      have HTh := hide (fthrough_any q (HC0.out.f.ints HTl.out))
      clear hOk hSu
      go_wp2_with fail
      refine HTh.out.mono ?_
      rintro e V1 ⟨rfl, hb⟩
      have HC1 := hide (HC0.out.below hb)
      clear hb HC0 HTh e0 e1 e2 e3 e4 e5
      generalize thI q T = m at *
      generalize hgb : V.heap.size = gb at *
      have hb0 := HC1.out.hb
      have hb1 : W.heap.size < gb := by omega
      obtain ⟨e0, e1, e2, e3, e4, e5⟩ := six_of HC1.out.n
      obtain ⟨r0, r1, r2, r3, r4, r5⟩ := six_fr HC1.out.n
      obtain ⟨c0, c1, c2, c3⟩ := four_of HC1.out.f.c
      have HC2 := hide (HC1.out.put m)
      have HKn := hide (fkn_any f d m (HC2.out.f.ins HMl.out) HOk2.out)
      obtain ⟨⟨x, kb⟩, hX⟩ : ∃ X, knZ f d M m = X := ⟨_, rfl⟩
      rw [hX] at HKn
      have HX := hide hX
      clear hX
      go_wp2_with fail
      refine HKn.out.mono ?_
      rintro e V2 ⟨rfl, hb⟩
      have HC3 := hide (HC2.out.below hb)
      clear hb HC2 HKn e0 e1 e2 e3 e4 e5 r0 r1 r2 r3 r4 r5 c0 c1 c2 c3
      obtain ⟨e0, e1, e2, e3, e4, e5⟩ := six_of HC3.out.n
      obtain ⟨r0, r1, r2, r3, r4, r5⟩ := six_fr HC3.out.n
      obtain ⟨c0, c1, c2, c3⟩ := four_of HC3.out.f.c
      cases kb
      · have HZ := hide (HNo.out x HX.out)
        have HSf := hide (fsf_any m (k : Int) (HC3.out.f.ins HMl.out) HOk2.out)
        generalize fsZ (k : Int) (lnZ M m) = z at *
        clear HY HNo HX
        go_wp2_with fail
        refine HSf.out.mono ?_
        rintro e V3 ⟨rfl, hb⟩
        have HC4 := hide (HC3.out.below hb)
        clear hb HSf e0 e1 e2 e3 e4 e5 r0 r1 r2 r3 r4 r5 c0 c1 c2 c3
        obtain ⟨e0, e1, e2, e3, e4, e5⟩ := six_of HC4.out.n
        have HN5 := hide (HasC.new V3 39 (ia m))
        have HF5 := hide (HC4.out.f.below (bel1 V3 (.cells (ia m) 39)))
        go_wp2_with (first
          | (at_builtin; refine ins_list rfl _ _ rfl rfl HF5.out.m HF5.out.lo.size _ m rfl HN5.out (by rw [HMl.out]; omega) ?_; intro g cap' w2 hown hgr; have HF6 := hide (HF5.out.growM hgr hown); have HF7 := hide (HF6.out.below (bel1 w2 (.cells #[.int .i64 z] 3))); have HN7 := hide (HasC.new w2 3 #[.int .i64 z]); clear hown hgr e0 e1 e2 e3 e4 e5)
          | (at_builtin; refine int_list rfl _ _ rfl rfl HF7.out.t HF7.out.lo.size _ z rfl HN7.out (by rw [HTl.out]; omega) ?_; intro g2 cap2 w3 hown2 hgr2))
        have HF8 := hide (HF7.out.growT hgr2 hown2)
        clear hown2 hgr2
        rw [HMl.out, HTl.out] at HF8 ⊢
        go_wp2_with fail
        go_roundw
        case rel => exact ⟨k + 1, _, _, _, _, M ++ [m], T ++ [z], by omega, by go_num, rfl, rfl, HZ, hide (by simp [HMl.out]), hide (by simp [HTl.out]), HF8⟩
        case measure => simp [intOf]; omega
      · have HZ := hide (HY.out x HX.out)
        clear HY HNo HX
        obtain ⟨V4, hV4⟩ : ∃ V4, (((((V2.setCell ⟨gb, 0, none⟩ (.int .i64 1)).setCell ⟨gb, 1, none⟩ (.int .i64 0)).setCell ⟨gb, 2, none⟩ (.int .i64 0)).setCell ⟨gb, 3, none⟩ (.int .i64 0)).setCell ⟨gb, 4, none⟩ (.int .i64 x)).setCell ⟨gb, 5, none⟩ (.int .i64 0) = V4 := ⟨_, rfl⟩
        have HC4 : Hid (Fc W V4 (cd f d (some ⟨b, off, none⟩) n cap (o : Int)) (.slice (some ⟨gm, 0, none⟩) k cm) (.slice (some ⟨gt, 0, none⟩) k ct) M T gb (nuI x)) := hide (by rw [← hV4]; exact HC3.out.put (nuI x))
        have HN5 : Hid (HasC (V4.alloc (.cells #[.int .i64 1, .int .i64 0, .int .i64 0, .int .i64 0, .int .i64 x, .int .i64 0] 39)) V4.heap.size 39 (ia (nuI x))) := hide (HasC.new V4 39 (ia (nuI x)))
        have HF5 : Hid (Fb W (V4.alloc (.cells #[.int .i64 1, .int .i64 0, .int .i64 0, .int .i64 0, .int .i64 x, .int .i64 0] 39)) (cd f d (some ⟨b, off, none⟩) n cap (o : Int)) (.slice (some ⟨gm, 0, none⟩) k cm) (.slice (some ⟨gt, 0, none⟩) k ct) M T) := hide (HC4.out.f.below (bel1 V4 (.cells (ia (nuI x)) 39)))
        go_upto_region 12 with fail
        clear hV4 HC3 e0 e1 e2 e3 e4 e5 r0 r1 r2 r3 r4 r5 c0 c1 c2 c3
        obtain ⟨e0, e1, e2, e3, e4, e5⟩ := six_of HC4.out.n
        dsimp only [nuI] at e0 e1 e2 e3 e4 e5
        go_wp2_with (first
          | (at_builtin; refine ins_list rfl _ _ rfl rfl HF5.out.m HF5.out.lo.size _ (nuI x) rfl HN5.out (by rw [HMl.out]; omega) ?_; intro g cap' w2 hown hgr; have HF6 := hide (HF5.out.growM hgr hown); have HF7 := hide (HF6.out.below (bel1 w2 (.cells #[.int .i64 (k : Int)] 3))); have HN7 := hide (HasC.new w2 3 #[.int .i64 (k : Int)]); clear hown hgr e0 e1 e2 e3 e4 e5)
          | (at_builtin; refine int_list rfl _ _ rfl rfl HF7.out.t HF7.out.lo.size _ (k : Int) rfl HN7.out (by rw [HTl.out]; omega) ?_; intro g2 cap2 w3 hown2 hgr2))
        have HF8 := hide (HF7.out.growT hgr2 hown2)
        clear hown2 hgr2
        rw [HMl.out, HTl.out] at HF8 ⊢
        go_wp2_with fail
        go_roundw
        case rel => exact ⟨k + 1, _, _, _, _, M ++ [(nuI x)], T ++ [(k : Int)], by omega, by go_num, rfl, rfl, HZ, hide (by simp [HMl.out]), hide (by simp [HTl.out]), HF8⟩
        case measure => simp [intOf]; omega
    · obtain rfl : k = n := by omega
      have hM := HM.out
      rw [List.take_of_length_le (by rw [HLn.out]; exact Nat.le_refl _)] at hM
      have HM2 := hide hM
      obtain ⟨c0, c1, c2, c3⟩ := four_of HF.out.c
      have hf0 := HF.out.o.frozen 0
      have hf1 := HF.out.o.frozen 1
      have hf2 := HF.out.o.frozen 2
      have hf3 := HF.out.o.frozen 3
      obtain ⟨p0, p1, p2, p3⟩ := four_of HF.out.o
      obtain ⟨b2, o2, e2', -, hat⟩ := (HF.out.ints HTl.out).at (by omega)
      cases e2'
      have t0 := hat o (by omega)
      rw [Nat.zero_add] at t0
      have hw0 : W.heap.size < V.heap.size := HF.out.c.lt
      have hw1 : W.heap.size + 1 < V.heap.size := HF.out.o.lt
      have i0' : (0 : Int) ≤ o := by omega
      have i1' : (o : Int) < k := by omega
      clear hat hM HM HOk HSu
      obtain ⟨z, hz⟩ : ∃ z, T.getD o 0 = z := ⟨_, rfl⟩
      rw [hz] at t0
      have HZ := hide hz
      clear hz
      go_wp2_with fail
      go_region
      have hq : (Value.slice (some ⟨gm, 0, none⟩) k cm).ownBlock ≠ some (W.heap.size + 1) := own_ne HF.out.m HF.out.o (by decide)
      have HO5 := hide (((((HF.out.o.set 0 (.int .i64 f)).set 1 (.int .i64 d)).set 2 (.slice (some ⟨gm, 0, none⟩) k cm)).set 3 (.int .i64 z)).below (below_drew _))
      have HM5 := hide ((ownsRow_setCell_other (ownsRow_setCell_other (ownsRow_setCell_other (ownsRow_setCell_other HF.out.m (a := ⟨W.heap.size + 1, 0, none⟩) hq (.int .i64 f)) (a := ⟨W.heap.size + 1, 1, none⟩) hq (.int .i64 d)) (a := ⟨W.heap.size + 1, 2, none⟩) hq (.slice (some ⟨gm, 0, none⟩) k cm)) (a := ⟨W.heap.size + 1, 3, none⟩) hq (.int .i64 z)).drew)
      have HB5 := hide (((((HF.out.lo.setCell (p := ⟨W.heap.size + 1, 0, none⟩) (by simp) (.int .i64 f)).setCell (p := ⟨W.heap.size + 1, 1, none⟩) (by simp) (.int .i64 d)).setCell (p := ⟨W.heap.size + 1, 2, none⟩) (by simp) (.slice (some ⟨gm, 0, none⟩) k cm)).setCell (p := ⟨W.heap.size + 1, 3, none⟩) (by simp) (.int .i64 z)).drew)
      obtain ⟨V5, hV5⟩ : ∃ V5, ((((V.setCell ⟨W.heap.size + 1, 0, none⟩ (.int .i64 f)).setCell ⟨W.heap.size + 1, 1, none⟩ (.int .i64 d)).setCell ⟨W.heap.size + 1, 2, none⟩ (.slice (some ⟨gm, 0, none⟩) k cm)).setCell ⟨W.heap.size + 1, 3, none⟩ (.int .i64 z)).drew = V5 := ⟨_, rfl⟩
      rw [hV5] at HO5 HM5 HB5 ⊢
      obtain ⟨x0, x1, x2, x3⟩ := four_of HO5.out
      rw [HMl.out] at HM5
      clear hV5 c0 c1 c2 c3 p0 p1 p2 p3 hf0 hf1 hf2 hf3 t0 hq
      go_wp2_with fail
      have HR : Hid ((foF f d L).1 = M ∧ foO f d L (o : Int) = z) := hide (by rw [foO, HM2.out]; exact ⟨rfl, HZ.out⟩)
      exact bodyPost_ret (v := .agg (cd f d (some ⟨gm, 0, none⟩) k cm z)) (by simp [results, Tryz.results13, go_sem, x0, x1, x2, x3]) rfl ⟨_, _, by rw [HR.out.2], by rw [HR.out.1]; exact HM5.out, HB5.out⟩

end Go.Proofs.Fld
