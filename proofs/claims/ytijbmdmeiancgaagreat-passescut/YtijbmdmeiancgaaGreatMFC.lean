/-
  fold.folded: the new code of one that is taken.
-/
import Derived.Test.YtijbmdmeiancgaaGreatMF5
import Derived.Test.YtijbmdmeiancgaaGreatMFA
import Derived.Deep.CutRange
import Derived.Test.YtijbmdmeiancgaaGreatMYA
namespace Go.Proofs.Fld
open Go.RowKit Go.IntWalk YtijbmdmeiancgaaGreat.Knd
open Cde (In i0 ia kd cd Ins at6 six_of four_of two_of has_new1 okI okT below_drew is6 i6 zA take_snoc)
open Vfy (vfE)
set_option linter.unusedVariables false

theorem foS_yes {f d : Int} {M : List In} {T : List Int} {n : In} {k : Nat} {x : Int} (hM : M.length = k) (h : knZ f d M (thI n T) = (x, true)) : foS f d (M, T) n = (M ++ [nuI x], T ++ [(k : Int)]) := by
  simp [foS, nwI, nwT, h, hM]
theorem foS_no {f d : Int} {M : List In} {T : List Int} {n : In} {k : Nat} {x : Int} (hM : M.length = k) (h : knZ f d M (thI n T) = (x, false)) : foS f d (M, T) n = (M ++ [thI n T], T ++ [fsZ k (lnZ M (thI n T))]) := by
  simp [foS, nwI, nwT, h, hM]

set_option maxRecDepth 100000 in
set_option maxHeartbeats 8000000 in
theorem ffolded_any (f d out : Int) {a : Option Addr} {n cap : Nat} {L : List In} {W : World} (hL : Ins W a n cap L) (h : vfE f d L out = 0) :
    Calls Tryz.prog 105 #[.agg (cd f d a n cap out)] W fun e W' => ∃ a' c', e = .returned (.agg (cd f d a' n c' (foO f d L out))) ∧ W'.ownsRow W.heap.size 57 6 (.slice a' n c') n (is6 (foF f d L).1) ∧ Below W.heap.size W W' := by
  obtain ⟨mc, -⟩ := Vfy.vf_parts h
  obtain ⟨-, m1, m2, o0, o1, -⟩ := Cde.mc_parts mc
  rw [hL.len] at m1 m2 o1
  obtain ⟨o, rfl⟩ : ∃ o : Nat, out = o := ⟨out.toNat, by omega⟩
  obtain ⟨cs1, hs1, hmk1⟩ := make_fs n (by omega)
  obtain ⟨cs2, hs2, hmk2⟩ := make_ti n (by omega)
  have HLI := hide hL
  have HLn := hide hL.len
  have HOk := hide fun k (hk : k < n) => fo_ok h (k := k) (by rw [hL.len]; exact hk)
  have HSu := hide fun k (hk : k < n) => foF_succ f d (L := L) (k := k) (by rw [hL.len]; exact hk)
  have HF0 : Hid (Fb W ((((W.alloc (.cells (cd f d a n cap (o : Int)) 26)).alloc (.cells cdz 26)).alloc (.cells cs1 57)).alloc (.cells cs2 3)) (cd f d a n cap (o : Int)) (.slice (some ⟨W.heap.size + 1 + 1, 0, none⟩) 0 n) (.slice (some ⟨W.heap.size + 1 + 1 + 1, 0, none⟩) 0 n) [] []) := by
    have b1 := bel1 W (.cells (cd f d a n cap (o : Int)) 26)
    have b2 := bel b1 (bel1 _ (.cells cdz 26))
    have b3 := bel b2 (bel1 _ (.cells cs1 57))
    have b4 := bel b3 (bel1 _ (.cells cs2 3))
    have h1 := ((HasC.new W 26 (cd f d a n cap (o : Int))).alloc (.cells cdz 26)).alloc (.cells cs1 57)
    have h2 := ((has_new1 W (.cells (cd f d a n cap (o : Int)) 26) 26 cdz).alloc (.cells cs1 57))
    have h3 := HasC.new ((W.alloc (.cells (cd f d a n cap (o : Int)) 26)).alloc (.cells cdz 26)) 57 cs1
    have h4 := HasC.new (((W.alloc (.cells (cd f d a n cap (o : Int)) 26)).alloc (.cells cdz 26)).alloc (.cells cs1 57)) 3 cs2
    rw [World.size_alloc, World.size_alloc] at h3
    rw [World.size_alloc, World.size_alloc, World.size_alloc] at h4
    exact ⟨h1.alloc _, h2.alloc _, own_start (h3.alloc _) hs1 (by omega) (by omega), own_start h4 hs2 (by omega) (by omega), b4⟩
  clear hL h mc hs1 hs2
  go_enter Tryz.func105, Tryz.ntmps105
  go_wp2_with fail
  clear hmk1 hmk2
  go_loopw [3, 4, 21] (fun mv tv i wr => ∃ (k gm cm gt ct : Nat) (M : List In) (T : List Int), k ≤ n ∧ i = .int .i64 k ∧ mv = .slice (some ⟨gm, 0, none⟩) k cm ∧ tv = .slice (some ⟨gt, 0, none⟩) k ct ∧ Hid (foF f d (L.take k) = (M, T)) ∧ Hid (M.length = k) ∧ Hid (T.length = k) ∧ Hid (Fb W wr (cd f d a n cap (o : Int)) (.slice (some ⟨gm, 0, none⟩) k cm) (.slice (some ⟨gt, 0, none⟩) k ct) M T)) (fun _ _ i _ => n - (intOf i).toNat)
  case atStart => exact ⟨0, _, _, _, _, [], [], Nat.zero_le _, rfl, rfl, rfl, hide rfl, hide rfl, hide rfl, HF0⟩
  case round =>
    obtain ⟨k, gm, cm, gt, ct, M, T, hk, rfl, rfl, rfl, HM, HMl, HTl, HF⟩ := hrel
    rename World => V
    clear HF0
    by_cases hlt : k < n
    · obtain ⟨b, off, rfl, -, hat⟩ := (HLI.out.later HF.out.lo).at (by omega)
      obtain ⟨e0, e1, e2, e3, e4, e5⟩ := hat k hlt
      clear hat
      have hi0 : (0 : Int) ≤ k := by omega
      have hi1 : (k : Int) < n := by omega
      have hOk := HOk.out k hlt
      have hSu := HSu.out k hlt
      rw [HM.out] at hOk hSu
      have HOk2 := hide hOk
      generalize L.getD k i0 = q at *
      have HY := hide fun x (h : knZ f d M (thI q T) = (x, true)) => hSu.trans (foS_yes HMl.out h)
      have HNo := hide fun x (h : knZ f d M (thI q T) = (x, false)) => hSu.trans (foS_no HMl.out h)
      have HC0 := hide (HF.out.with q)
      have HTh := hide (fthrough_any q (HC0.out.f.ints HTl.out))
      clear hOk hSu
      go_wp2_with fail
      refine HTh.out.mono ?_
      rintro e V1 ⟨rfl, hb⟩
      have HC1 := hide (HC0.out.below hb)
      clear hb HC0 HTh e0 e1 e2 e3 e4 e5
      generalize thI q T = m at *
      generalize hgb : V.heap.size = gb at *
      have hb0 := HC1.out.hb
      have hb1 : W.heap.size < gb := by omega
      obtain ⟨e0, e1, e2, e3, e4, e5⟩ := six_of HC1.out.n
      obtain ⟨r0, r1, r2, r3, r4, r5⟩ := six_fr HC1.out.n
      obtain ⟨c0, c1, c2, c3⟩ := four_of HC1.out.f.c
      have HC2 := hide (HC1.out.put m)
      have HKn := hide (fkn_any f d m (HC2.out.f.ins HMl.out) HOk2.out)
      obtain ⟨⟨x, kb⟩, hX⟩ : ∃ X, knZ f d M m = X := ⟨_, rfl⟩
      rw [hX] at HKn
      have HX := hide hX
      clear hX
      go_wp2_with fail
      refine HKn.out.mono ?_
      rintro e V2 ⟨rfl, hb⟩
      have HC3 := hide (HC2.out.below hb)
      clear hb HC2 HKn e0 e1 e2 e3 e4 e5 r0 r1 r2 r3 r4 r5 c0 c1 c2 c3
      obtain ⟨e0, e1, e2, e3, e4, e5⟩ := six_of HC3.out.n
      obtain ⟨r0, r1, r2, r3, r4, r5⟩ := six_fr HC3.out.n
      obtain ⟨c0, c1, c2, c3⟩ := four_of HC3.out.f.c
      cases kb
      · have HZ := hide (HNo.out x HX.out)
        have HSf := hide (fsf_any m (k : Int) (HC3.out.f.ins HMl.out) HOk2.out)
        generalize fsZ (k : Int) (lnZ M m) = z at *
        clear HY HNo HX
        go_wp2_with fail
        refine HSf.out.mono ?_
        rintro e V3 ⟨rfl, hb⟩
        have HC4 := hide (HC3.out.below hb)
        clear hb HSf e0 e1 e2 e3 e4 e5 r0 r1 r2 r3 r4 r5 c0 c1 c2 c3
        obtain ⟨e0, e1, e2, e3, e4, e5⟩ := six_of HC4.out.n
        have HN5 := hide (HasC.new V3 57 (ia m))
        have HF5 := hide (HC4.out.f.below (bel1 V3 (.cells (ia m) 57)))
        go_wp2_with (first
          | (at_builtin; refine ins_list rfl _ _ rfl rfl HF5.out.m HF5.out.lo.size _ m rfl HN5.out (by rw [HMl.out]; omega) ?_; intro g cap' w2 hown hgr; have HF6 := hide (HF5.out.growM hgr hown); have HF7 := hide (HF6.out.below (bel1 w2 (.cells #[.int .i64 z] 3))); have HN7 := hide (HasC.new w2 3 #[.int .i64 z]); clear hown hgr e0 e1 e2 e3 e4 e5)
          | (at_builtin; refine int_list rfl _ _ rfl rfl HF7.out.t HF7.out.lo.size _ z rfl HN7.out (by rw [HTl.out]; omega) ?_; intro g2 cap2 w3 hown2 hgr2))
        have HF8 := hide (HF7.out.growT hgr2 hown2)
        clear hown2 hgr2
        rw [HMl.out, HTl.out] at HF8 ⊢
        go_wp2_with fail
        go_roundw
        case rel => exact ⟨k + 1, _, _, _, _, M ++ [m], T ++ [z], by omega, by go_num, rfl, rfl, HZ, hide (by simp [HMl.out]), hide (by simp [HTl.out]), HF8⟩
        case measure => simp [intOf]; omega
      · have HZ := hide (HY.out x HX.out)
        clear HY HNo HX
        obtain ⟨V4, hV4⟩ : ∃ V4, (((((V2.setCell ⟨gb, 0, none⟩ (.int .i64 1)).setCell ⟨gb, 1, none⟩ (.int .i64 0)).setCell ⟨gb, 2, none⟩ (.int .i64 0)).setCell ⟨gb, 3, none⟩ (.int .i64 0)).setCell ⟨gb, 4, none⟩ (.int .i64 x)).setCell ⟨gb, 5, none⟩ (.int .i64 0) = V4 := ⟨_, rfl⟩
        have HC4 : Hid (Fc W V4 (cd f d (some ⟨b, off, none⟩) n cap (o : Int)) (.slice (some ⟨gm, 0, none⟩) k cm) (.slice (some ⟨gt, 0, none⟩) k ct) M T gb (nuI x)) := hide (by rw [← hV4]; exact HC3.out.put (nuI x))
        have HN5 : Hid (HasC (V4.alloc (.cells #[.int .i64 1, .int .i64 0, .int .i64 0, .int .i64 0, .int .i64 x, .int .i64 0] 57)) V4.heap.size 57 (ia (nuI x))) := hide (HasC.new V4 57 (ia (nuI x)))
        have HF5 : Hid (Fb W (V4.alloc (.cells #[.int .i64 1, .int .i64 0, .int .i64 0, .int .i64 0, .int .i64 x, .int .i64 0] 57)) (cd f d (some ⟨b, off, none⟩) n cap (o : Int)) (.slice (some ⟨gm, 0, none⟩) k cm) (.slice (some ⟨gt, 0, none⟩) k ct) M T) := hide (HC4.out.f.below (bel1 V4 (.cells (ia (nuI x)) 57)))
        go_upto_region 12 with fail
        clear hV4 HC3 e0 e1 e2 e3 e4 e5 r0 r1 r2 r3 r4 r5 c0 c1 c2 c3
        obtain ⟨e0, e1, e2, e3, e4, e5⟩ := six_of HC4.out.n
        dsimp only [nuI] at e0 e1 e2 e3 e4 e5
        go_wp2_with (first
          | (at_builtin; refine ins_list rfl _ _ rfl rfl HF5.out.m HF5.out.lo.size _ (nuI x) rfl HN5.out (by rw [HMl.out]; omega) ?_; intro g cap' w2 hown hgr; have HF6 := hide (HF5.out.growM hgr hown); have HF7 := hide (HF6.out.below (bel1 w2 (.cells #[.int .i64 (k : Int)] 3))); have HN7 := hide (HasC.new w2 3 #[.int .i64 (k : Int)]); clear hown hgr e0 e1 e2 e3 e4 e5)
          | (at_builtin; refine int_list rfl _ _ rfl rfl HF7.out.t HF7.out.lo.size _ (k : Int) rfl HN7.out (by rw [HTl.out]; omega) ?_; intro g2 cap2 w3 hown2 hgr2))
        have HF8 := hide (HF7.out.growT hgr2 hown2)
        clear hown2 hgr2
        rw [HMl.out, HTl.out] at HF8 ⊢
        go_wp2_with fail
        go_roundw
        case rel => exact ⟨k + 1, _, _, _, _, M ++ [(nuI x)], T ++ [(k : Int)], by omega, by go_num, rfl, rfl, HZ, hide (by simp [HMl.out]), hide (by simp [HTl.out]), HF8⟩
        case measure => simp [intOf]; omega
    · obtain rfl : k = n := by omega
      have hM := HM.out
      rw [List.take_of_length_le (by rw [HLn.out]; exact Nat.le_refl _)] at hM
      have HM2 := hide hM
      obtain ⟨c0, c1, c2, c3⟩ := four_of HF.out.c
      have hf0 := HF.out.o.frozen 0
      have hf1 := HF.out.o.frozen 1
      have hf2 := HF.out.o.frozen 2
      have hf3 := HF.out.o.frozen 3
      obtain ⟨p0, p1, p2, p3⟩ := four_of HF.out.o
      obtain ⟨b2, o2, e2', -, hat⟩ := (HF.out.ints HTl.out).at (by omega)
      cases e2'
      have t0 := hat o (by omega)
      rw [Nat.zero_add] at t0
      have hw0 : W.heap.size < V.heap.size := HF.out.c.lt
      have hw1 : W.heap.size + 1 < V.heap.size := HF.out.o.lt
      have i0' : (0 : Int) ≤ o := by omega
      have i1' : (o : Int) < k := by omega
      clear hat hM HM HOk HSu
      obtain ⟨z, hz⟩ : ∃ z, T.getD o 0 = z := ⟨_, rfl⟩
      rw [hz] at t0
      have HZ := hide hz
      clear hz
      go_wp2_with fail
      go_region
      have hq : (Value.slice (some ⟨gm, 0, none⟩) k cm).ownBlock ≠ some (W.heap.size + 1) := own_ne HF.out.m HF.out.o (by decide)
      have HO5 := hide (((((HF.out.o.set 0 (.int .i64 f)).set 1 (.int .i64 d)).set 2 (.slice (some ⟨gm, 0, none⟩) k cm)).set 3 (.int .i64 z)).below (below_drew _))
      have HM5 := hide ((ownsRow_setCell_other (ownsRow_setCell_other (ownsRow_setCell_other (ownsRow_setCell_other HF.out.m (a := ⟨W.heap.size + 1, 0, none⟩) hq (.int .i64 f)) (a := ⟨W.heap.size + 1, 1, none⟩) hq (.int .i64 d)) (a := ⟨W.heap.size + 1, 2, none⟩) hq (.slice (some ⟨gm, 0, none⟩) k cm)) (a := ⟨W.heap.size + 1, 3, none⟩) hq (.int .i64 z)).drew)
      have HB5 := hide (((((HF.out.lo.setCell (p := ⟨W.heap.size + 1, 0, none⟩) (by simp) (.int .i64 f)).setCell (p := ⟨W.heap.size + 1, 1, none⟩) (by simp) (.int .i64 d)).setCell (p := ⟨W.heap.size + 1, 2, none⟩) (by simp) (.slice (some ⟨gm, 0, none⟩) k cm)).setCell (p := ⟨W.heap.size + 1, 3, none⟩) (by simp) (.int .i64 z)).drew)
      obtain ⟨V5, hV5⟩ : ∃ V5, ((((V.setCell ⟨W.heap.size + 1, 0, none⟩ (.int .i64 f)).setCell ⟨W.heap.size + 1, 1, none⟩ (.int .i64 d)).setCell ⟨W.heap.size + 1, 2, none⟩ (.slice (some ⟨gm, 0, none⟩) k cm)).setCell ⟨W.heap.size + 1, 3, none⟩ (.int .i64 z)).drew = V5 := ⟨_, rfl⟩
      rw [hV5] at HO5 HM5 HB5 ⊢
      obtain ⟨x0, x1, x2, x3⟩ := four_of HO5.out
      rw [HMl.out] at HM5
      clear hV5 c0 c1 c2 c3 p0 p1 p2 p3 hf0 hf1 hf2 hf3 t0 hq
      go_wp2_with fail
      have HR : Hid ((foF f d L).1 = M ∧ foO f d L (o : Int) = z) := hide (by rw [foO, HM2.out]; exact ⟨rfl, HZ.out⟩)
      exact bodyPost_ret (v := .agg (cd f d (some ⟨gm, 0, none⟩) k cm z)) (by simp [results, Tryz.results105, go_sem, x0, x1, x2, x3]) rfl ⟨_, _, by rw [HR.out.2], by rw [HR.out.1]; exact HM5.out, HB5.out⟩

end Go.Proofs.Fld

/-
  fold.harmless: the new code if that is taken, else a copy of the old one.
-/
namespace Go.Proofs.Fld
open Go.RowKit Go.IntWalk YtijbmdmeiancgaaGreat.Knd
open Cde (In i0 ia kd cd Ins at6 six_of four_of two_of has_new1 okI okT below_drew is6 i6)
open Vfy (vfE vfN vfC)
set_option linter.unusedVariables false

/-- harmless' boxes. -/
structure Fh (W V : World) (cv wv rv : Array Value) : Prop where
  c : HasC V W.heap.size 26 cv
  w : HasC V (W.heap.size + 1) 26 wv
  r : HasC V (W.heap.size + 1 + 1) 26 rv
  lo : Below W.heap.size W V
theorem Fh.below {W V V' : World} {cv wv rv : Array Value} (h : Fh W V cv wv rv) (hb : Below V.heap.size V V') : Fh W V' cv wv rv := ⟨h.c.below hb, h.w.below hb, h.r.below hb, bel h.lo hb⟩
abbrev s4 (w : World) (b : Nat) (x y z u : Value) : World := (((w.setCell ⟨b, 0, none⟩ x).setCell ⟨b, 1, none⟩ y).setCell ⟨b, 2, none⟩ z).setCell ⟨b, 3, none⟩ u
theorem Fh.put {W V : World} {cv wv : Array Value} {p q r s : Value} (h : Fh W V cv wv #[p, q, r, s]) (x y z u : Value) : Fh W (s4 V (W.heap.size + 1 + 1) x y z u) cv wv #[x, y, z, u] := by
  refine ⟨?_, ?_, (((h.r.set 0 x).set 1 y).set 2 z).set 3 u, ?_⟩
  · exact (((h.c.other (p := ⟨W.heap.size + 1 + 1, 0, none⟩) (by simp; omega) _).other (p := ⟨W.heap.size + 1 + 1, 1, none⟩) (by simp; omega) _).other (p := ⟨W.heap.size + 1 + 1, 2, none⟩) (by simp; omega) _).other (p := ⟨W.heap.size + 1 + 1, 3, none⟩) (by simp; omega) _
  · exact (((h.w.other (p := ⟨W.heap.size + 1 + 1, 0, none⟩) (by simp) _).other (p := ⟨W.heap.size + 1 + 1, 1, none⟩) (by simp) _).other (p := ⟨W.heap.size + 1 + 1, 2, none⟩) (by simp) _).other (p := ⟨W.heap.size + 1 + 1, 3, none⟩) (by simp) _
  · exact (((h.lo.setCell (p := ⟨W.heap.size + 1 + 1, 0, none⟩) (by simp; omega) _).setCell (p := ⟨W.heap.size + 1 + 1, 1, none⟩) (by simp; omega) _).setCell (p := ⟨W.heap.size + 1 + 1, 2, none⟩) (by simp; omega) _).setCell (p := ⟨W.heap.size + 1 + 1, 3, none⟩) (by simp; omega) _
theorem four_fr {W : World} {b : Nat} {t : TypeId} {cs : Array Value} (h : HasC W b t cs) : W.frozen? ⟨b, 0, none⟩ = false ∧ W.frozen? ⟨b, 1, none⟩ = false ∧ W.frozen? ⟨b, 2, none⟩ = false ∧ W.frozen? ⟨b, 3, none⟩ = false := ⟨h.frozen 0, h.frozen 1, h.frozen 2, h.frozen 3⟩
theorem s4_own {w : World} {base b size n : Nat} {e : TypeId} {v : Value} {xs : List Value} (h : w.ownsRow base e size v n xs) (hq : v.ownBlock ≠ some b) (x y z u : Value) : (s4 w b x y z u).ownsRow base e size v n xs :=
  ownsRow_setCell_other (ownsRow_setCell_other (ownsRow_setCell_other (ownsRow_setCell_other h (a := ⟨b, 0, none⟩) hq _) (a := ⟨b, 1, none⟩) hq _) (a := ⟨b, 2, none⟩) hq _) (a := ⟨b, 3, none⟩) hq _

set_option maxRecDepth 100000 in
set_option maxHeartbeats 8000000 in
theorem fharm_any (f d o1 o2 : Int) {a1 a2 : Option Addr} {n1 n2 c1 c2 : Nat} {M L : List In} {W : World} (hM : Ins W a1 n1 c1 M) (hL : Ins W a2 n2 c2 L) (hn0 : 0 < n2) (hn : n2 ≤ 1000) :
    Calls Tryz.prog 104 #[.agg (cd f d a1 n1 c1 o1), .agg (cd f d a2 n2 c2 o2)] W fun e W' =>
      (vfE f d M o1 = 0 ∧ e = .returned (.agg (cd f d a1 n1 c1 o1)) ∧ Below W.heap.size W W') ∨
      (vfE f d M o1 ≠ 0 ∧ ∃ a' c', e = .returned (.agg (cd f d a' n2 c' o2)) ∧ W'.ownsRow W.heap.size 57 6 (.slice a' n2 c') n2 (is6 L) ∧ Below W.heap.size W W') := by
  have b1 := bel1 W (.cells (cd f d a1 n1 c1 o1) 26)
  have b2 := bel b1 (bel1 _ (.cells (cd f d a2 n2 c2 o2) 26))
  have b3 := bel b2 (bel1 _ (.cells cdz 26))
  have h3 := HasC.new ((W.alloc (.cells (cd f d a1 n1 c1 o1) 26)).alloc (.cells (cd f d a2 n2 c2 o2) 26)) 26 cdz
  rw [World.size_alloc, World.size_alloc] at h3
  have HF0 : Hid (Fh W (((W.alloc (.cells (cd f d a1 n1 c1 o1) 26)).alloc (.cells (cd f d a2 n2 c2 o2) 26)).alloc (.cells cdz 26)) (cd f d a1 n1 c1 o1) (cd f d a2 n2 c2 o2) cdz) :=
    hide ⟨((HasC.new W 26 (cd f d a1 n1 c1 o1)).alloc (.cells (cd f d a2 n2 c2 o2) 26)).alloc (.cells cdz 26), (has_new1 W (.cells (cd f d a1 n1 c1 o1) 26) 26 (cd f d a2 n2 c2 o2)).alloc (.cells cdz 26), h3, b3⟩
  have HV := hide (Vfy.yverify_any f d o1 (hM.later b3))
  have HLI := hide hL
  clear b1 b2 b3 h3 hM hL
  go_enter Tryz.func104, Tryz.ntmps104
  go_wp2_with fail
  refine HV.out.mono ?_
  rintro e V1 ⟨ga, gc, rfl, hS, hb, -, -⟩
  obtain ⟨m, hm⟩ : ∃ m, vfN f d M o1 = m := ⟨_, rfl⟩
  obtain ⟨co, hco⟩ : ∃ co, vfC f d M o1 = co := ⟨_, rfl⟩
  obtain ⟨er, her⟩ : ∃ er, vfE f d M o1 = er := ⟨_, rfl⟩
  rw [hm, hco, her]
  have HEr := hide her
  have hb2 := bel1 V1 (.cells #[.slice ga m gc, .int .i64 co, .int .i64 0] 47)
  have HF1 := hide ((HF0.out.below hb).below hb2)
  obtain ⟨x0, x1, x2, x3⟩ := four_of (HF0.out.below hb).c
  obtain ⟨w0, w1, w2, w3⟩ := four_of (HF0.out.below hb).w
  obtain ⟨p0, p1, p2, p3⟩ := four_of (HF0.out.below hb).r
  have z0 := (HF0.out.below hb).c.lt
  have z1 := (HF0.out.below hb).w.lt
  have z2 := (HF0.out.below hb).r.lt
  clear hm hco her hb hb2 hS HV HF0
  by_cases h0 : er = 0
  · have hr : (er == 0) = true := by simpa using h0
    go_upto_region 3 with fail
    obtain ⟨V2, hV2⟩ : ∃ V2, V1.alloc (.cells #[.slice ga m gc, .int .i64 co, .int .i64 0] 47) = V2 := ⟨_, rfl⟩
    rw [hV2] at HF1 ⊢
    clear x0 x1 x2 x3 w0 w1 w2 w3 p0 p1 p2 p3 z0 z1 z2 hV2
    obtain ⟨x0, x1, x2, x3⟩ := four_of HF1.out.c
    obtain ⟨p0, p1, p2, p3⟩ := four_of HF1.out.r
    obtain ⟨r0, r1, r2, r3⟩ := four_fr HF1.out.r
    obtain ⟨V3, hV3⟩ : ∃ V3, (((V2.setCell ⟨W.heap.size + 1 + 1, 0, none⟩ (.int .i64 f)).setCell ⟨W.heap.size + 1 + 1, 1, none⟩ (.int .i64 d)).setCell ⟨W.heap.size + 1 + 1, 2, none⟩ (.slice a1 n1 c1)).setCell ⟨W.heap.size + 1 + 1, 3, none⟩ (.int .i64 o1) = V3 := ⟨_, rfl⟩
    have HF2 : Hid (Fh W V3 (cd f d a1 n1 c1 o1) (cd f d a2 n2 c2 o2) (cd f d a1 n1 c1 o1)) := hide (by rw [← hV3]; exact HF1.out.put (.int .i64 f) (.int .i64 d) (.slice a1 n1 c1) (.int .i64 o1))
    go_wp2_with fail
    obtain ⟨q0, q1, q2, q3⟩ := four_of HF2.out.r
    exact bodyPost_ret (v := .agg (cd f d a1 n1 c1 o1)) (by simp [results, Tryz.results104, go_sem, q0, q1, q2, q3]) rfl (.inl ⟨HEr.out.trans h0, rfl, HF2.out.lo⟩)
  · have hr : (er == 0) = false := by simpa using h0
    go_upto_region 4 with fail
    obtain ⟨V2, hV2⟩ : ∃ V2, V1.alloc (.cells #[.slice ga m gc, .int .i64 co, .int .i64 0] 47) = V2 := ⟨_, rfl⟩
    rw [hV2] at HF1 ⊢
    clear x0 x1 x2 x3 w0 w1 w2 w3 p0 p1 p2 p3 z0 z1 z2 hV2
    obtain ⟨x0, x1, x2, x3⟩ := four_of HF1.out.w
    have HCl := hide (fclone_any ((HLI.out.later HF1.out.lo).later (below_drew V2)) (by omega) hn0)
    have HS := hide fun V3 (hb : Below V2.drew.heap.size V2.drew V3) => (HF1.out.below (bel (below_drew V2) hb))
    go_region_held3 (fun w' => w'.cell? ⟨W.heap.size + 1, 0, none⟩ = some (.int .i64 f) ∧ w'.cell? ⟨W.heap.size + 1, 1, none⟩ = some (.int .i64 d) ∧ w'.cell? ⟨W.heap.size + 1, 2, none⟩ = some (.slice a2 n2 c2) ∧ w'.cell? ⟨W.heap.size + 1, 3, none⟩ = some (.int .i64 o2))
      (first | exact ⟨x0, x1, x2, x3⟩ | exact ⟨k0, k1, k2, k3⟩ | go_keep)
      ((first
        | (go_at_call 24; refine HCl.out.mono ?_; rintro e V3 ⟨a', c', rfl, hO, hb⟩; have HF3 := hide (HS.out V3 hb); obtain ⟨k0, k1, k2, k3⟩ := four_of HF3.out.w; obtain ⟨p0, p1, p2, p3⟩ := four_of HF3.out.r; obtain ⟨r0, r1, r2, r3⟩ := four_fr HF3.out.r)))
    all_goals
      have HO3 := hide (Cde.own_mono hO (show W.heap.size ≤ V2.drew.heap.size from HF1.out.lo.size))
      clear k0 k1 k2 k3 p0 p1 p2 p3 r0 r1 r2 r3 hO hb HCl HS x0 x1 x2 x3
      have hq := own_ne HO3.out HF3.out.r (by decide)
      have HO4 := hide (s4_own HO3.out hq (.int .i64 f) (.int .i64 d) (.slice a' n2 c') (.int .i64 o2))
      have HF4 := hide (HF3.out.put (.int .i64 f) (.int .i64 d) (.slice a' n2 c') (.int .i64 o2))
      obtain ⟨V4, hV4⟩ : ∃ V4, (((V3.setCell ⟨W.heap.size + 1 + 1, 0, none⟩ (.int .i64 f)).setCell ⟨W.heap.size + 1 + 1, 1, none⟩ (.int .i64 d)).setCell ⟨W.heap.size + 1 + 1, 2, none⟩ (.slice a' n2 c')).setCell ⟨W.heap.size + 1 + 1, 3, none⟩ (.int .i64 o2) = V4 := ⟨_, rfl⟩
      unfold s4 at HO4 HF4
      rw [hV4] at HO4 HF4 ⊢
      clear hV4 hq HF3 HO3
      go_wp2_with fail
      obtain ⟨q0, q1, q2, q3⟩ := four_of HF4.out.r
      exact bodyPost_ret (v := .agg (cd f d a' n2 c' o2)) (by simp [results, Tryz.results104, go_sem, q0, q1, q2, q3]) rfl (.inr ⟨by rw [HEr.out]; exact h0, _, _, rfl, HO4.out, HF4.out.lo⟩)

end Go.Proofs.Fld

/-
  fold.Fold: what it answers.
-/
namespace Go.Proofs.Fld
open Go.RowKit Go.IntWalk YtijbmdmeiancgaaGreat.Knd
open Cde (In i0 ia kd cd Ins at6 six_of four_of two_of has_new1 okI okT below_drew is6 i6)
open Vfy (vfE vfN vfC)
set_option linter.unusedVariables false

/-- What Fold answers: a code of the call's own, and an error. -/
def foI (f d : Int) (L : List In) (out : Int) : List In := if vfE f d L out = 0 then fdL f d L out else []
def foU (f d : Int) (L : List In) (out : Int) : Int := if vfE f d L out = 0 then fdO f d L out else 0
def foK (f d : Int) (L : List In) (out x : Int) : Int := if vfE f d L out = 0 then x else 0
def FoP (w : World) (f d : Int) (L : List In) (out : Int) (e : Ending) (W' : World) : Prop :=
  ∃ a c, e = .returned (.tuple #[.agg (cd (foK f d L out f) (foK f d L out d) a (foI f d L out).length c (foU f d L out)), .int .i64 (vfE f d L out)]) ∧ W'.ownsRow w.heap.size 57 6 (.slice a (foI f d L out).length c) (foI f d L out).length (is6 (foI f d L out)) ∧ Below w.heap.size w W'
theorem FoP.no {w W' : World} {f d : Int} {L : List In} {out er : Int} (h : vfE f d L out = er) (h0 : er ≠ 0) (hb : Below w.heap.size w W') : FoP w f d L out (.returned (.tuple #[.agg cdz, .int .i64 er])) W' := by
  subst h
  refine ⟨none, 0, ?_, ?_, hb⟩
  · simp [foK, foI, foU, h0]
  · rw [foI, if_neg h0]; exact ⟨rfl, .inl ⟨rfl, rfl⟩⟩
theorem FoP.row {w W' : World} {f d : Int} {L I : List In} {out u : Int} {a : Option Addr} {n c : Nat} (h : vfE f d L out = 0) (hI : fdL f d L out = I) (hu : fdO f d L out = u) (hn : I.length = n) (hO : W'.ownsRow w.heap.size 57 6 (.slice a n c) n (is6 I)) (hb : Below w.heap.size w W') : FoP w f d L out (.returned (.tuple #[.agg (cd f d a n c u), .int .i64 0])) W' := by
  subst hn hI hu
  refine ⟨a, c, ?_, ?_, hb⟩
  · simp [foK, foI, foU, h]
  · rw [foI, if_pos h]; exact hO
/-- Fold's boxes. -/
structure Fg (W V : World) (cv rv : Array Value) : Prop where
  c : HasC V W.heap.size 26 cv
  r : HasC V (W.heap.size + 1) 26 rv
  lo : Below W.heap.size W V
theorem Fg.below {W V V' : World} {cv rv : Array Value} (h : Fg W V cv rv) (hb : Below V.heap.size V V') : Fg W V' cv rv := ⟨h.c.below hb, h.r.below hb, bel h.lo hb⟩
theorem Fg.put {W V : World} {cv : Array Value} {p q r s : Value} (h : Fg W V cv #[p, q, r, s]) (x y z u : Value) : Fg W (s4 V (W.heap.size + 1) x y z u) cv #[x, y, z, u] := by
  refine ⟨?_, (((h.r.set 0 x).set 1 y).set 2 z).set 3 u, ?_⟩
  · exact (((h.c.other (p := ⟨W.heap.size + 1, 0, none⟩) (by simp) _).other (p := ⟨W.heap.size + 1, 1, none⟩) (by simp) _).other (p := ⟨W.heap.size + 1, 2, none⟩) (by simp) _).other (p := ⟨W.heap.size + 1, 3, none⟩) (by simp) _
  · exact (((h.lo.setCell (p := ⟨W.heap.size + 1, 0, none⟩) (by simp) _).setCell (p := ⟨W.heap.size + 1, 1, none⟩) (by simp) _).setCell (p := ⟨W.heap.size + 1, 2, none⟩) (by simp) _).setCell (p := ⟨W.heap.size + 1, 3, none⟩) (by simp) _
theorem foF_all (f d : Int) (L : List In) : (foF f d L).1.length = L.length := by
  have := (foF_len f d L L.length (Nat.le_refl _)).1
  rwa [List.take_length] at this
/-- What harmless makes of it, in one form. -/
theorem harm_one {f d out : Int} {a1 a2 : Option Addr} {n c1 c2 : Nat} {L : List In} {W : World} (hL : L.length = n) (hO : W.ownsRow 0 57 6 (.slice a1 n c1) n (is6 (foF f d L).1)) (hI : Ins W a2 n c2 L) (hn0 : 0 < n) (hn : n ≤ 1000) :
    Calls Tryz.prog 104 #[.agg (cd f d a1 n c1 (foO f d L out)), .agg (cd f d a2 n c2 out)] W fun e W' => ∃ a' c', e = .returned (.agg (cd f d a' n c' (fdO f d L out))) ∧ (∀ base, W.ownsRow base 57 6 (.slice a1 n c1) n (is6 (foF f d L).1) → base ≤ W.heap.size → W'.ownsRow base 57 6 (.slice a' n c') n (is6 (fdL f d L out))) ∧ Below W.heap.size W W' := by
  obtain ⟨a', c', e', hM, -⟩ := Ins.of_owns hO
  cases e'
  refine (fharm_any f d (foO f d L out) out hM hI hn0 hn).mono ?_
  rintro e W' (⟨h0, rfl, hb⟩ | ⟨h0, a', c', rfl, ho, hb⟩)
  · exact ⟨_, _, by rw [fdO, if_pos h0], fun base h _ => by rw [fdL, if_pos h0]; exact Cde.own_later h hb, hb⟩
  · exact ⟨_, _, by rw [fdO, if_neg h0], fun base _ h => by rw [fdL, if_neg h0]; exact Cde.own_mono ho h, hb⟩

set_option maxRecDepth 100000 in
set_option maxHeartbeats 8000000 in
theorem ffold_any (f d out : Int) {a : Option Addr} {n cap : Nat} {L : List In} {W : World} (hL : Ins W a n cap L) :
    Calls Tryz.prog 74 #[.agg (cd f d a n cap out)] W (FoP W f d L out) := by
  have b1 := bel1 W (.cells (cd f d a n cap out) 26)
  have b2 := bel b1 (bel1 _ (.cells cdz 26))
  have HF0 : Hid (Fg W ((W.alloc (.cells (cd f d a n cap out) 26)).alloc (.cells cdz 26)) (cd f d a n cap out) cdz) :=
    hide ⟨(HasC.new W 26 (cd f d a n cap out)).alloc (.cells cdz 26), has_new1 W (.cells (cd f d a n cap out) 26) 26 cdz, b2⟩
  have HV := hide (Vfy.yverify_any f d out (hL.later b2))
  have HLI := hide hL
  have HLn := hide hL.len
  clear b1 b2 hL
  go_enter Tryz.func74, Tryz.ntmps74
  go_wp2_with fail
  refine HV.out.mono ?_
  rintro e V1 ⟨ga, gc, rfl, hS, hb, -, -⟩
  obtain ⟨m, hm⟩ : ∃ m, vfN f d L out = m := ⟨_, rfl⟩
  obtain ⟨co, hco⟩ : ∃ co, vfC f d L out = co := ⟨_, rfl⟩
  obtain ⟨er, her⟩ : ∃ er, vfE f d L out = er := ⟨_, rfl⟩
  rw [hm, hco, her]
  have HEr := hide her
  have hb2 := bel1 V1 (.cells #[.slice ga m gc, .int .i64 co, .int .i64 0] 47)
  have HF1 := hide ((HF0.out.below hb).below hb2)
  obtain ⟨x0, x1, x2, x3⟩ := four_of (HF0.out.below hb).c
  obtain ⟨p0, p1, p2, p3⟩ := four_of (HF0.out.below hb).r
  have z0 := (HF0.out.below hb).c.lt
  have z1 := (HF0.out.below hb).r.lt
  clear hm hco her hb hb2 hS HV HF0
  by_cases h0 : er = 0
  · have hr : (er != 0) = false := by simpa using h0
    go_upto_region 4 with fail
    obtain ⟨V2, hV2⟩ : ∃ V2, V1.alloc (.cells #[.slice ga m gc, .int .i64 co, .int .i64 0] 47) = V2 := ⟨_, rfl⟩
    rw [hV2] at HF1 ⊢
    clear x0 x1 x2 x3 p0 p1 p2 p3 z0 z1 hV2
    obtain ⟨x0, x1, x2, x3⟩ := four_of HF1.out.c
    have h0' := HEr.out.trans h0
    obtain ⟨mc, -⟩ := Vfy.vf_parts h0'
    obtain ⟨-, m1, m2, o0, o1, -⟩ := Cde.mc_parts mc
    rw [HLn.out] at m1 m2 o1
    have HFo := hide (ffolded_any f d out ((HLI.out.later HF1.out.lo).later (below_drew V2)) h0')
    have HHa := hide fun (V : World) (a1 : Option Addr) (c1 : Nat) (hO : V.ownsRow 0 57 6 (.slice a1 n c1) n (is6 (foF f d L).1)) (hI : Ins V a n cap L) => harm_one (out := out) HLn.out hO hI (by omega) (by omega)
    have HS := hide fun V3 (hb : Below V2.drew.heap.size V2.drew V3) => (HF1.out.below (bel (below_drew V2) hb))
    clear mc
    go_region_held3 (fun w' => w'.cell? ⟨W.heap.size, 0, none⟩ = some (.int .i64 f) ∧ w'.cell? ⟨W.heap.size, 1, none⟩ = some (.int .i64 d) ∧ w'.cell? ⟨W.heap.size, 2, none⟩ = some (.slice a n cap) ∧ w'.cell? ⟨W.heap.size, 3, none⟩ = some (.int .i64 out))
      (first | exact ⟨x0, x1, x2, x3⟩ | exact ⟨l0, l1, l2, l3⟩ | exact ⟨k0, k1, k2, k3⟩ | go_keep)
      ((first
        | (go_at_call 105; refine HFo.out.mono ?_; rintro e V3 ⟨a', c', rfl, hO, hb⟩; have HF3 := hide (HS.out V3 hb); obtain ⟨k0, k1, k2, k3⟩ := four_of HF3.out.c)
        | (go_at_call 104; refine (HHa.out _ _ _ (Cde.own_mono hO (Nat.zero_le _)) (HLI.out.later HF3.out.lo)).mono ?_; rintro e V4 ⟨a2', c2', rfl, hO4, hb4⟩; have HF4 := hide (HF3.out.below hb4); obtain ⟨l0, l1, l2, l3⟩ := four_of HF4.out.c; obtain ⟨p0, p1, p2, p3⟩ := four_of HF4.out.r; obtain ⟨r0, r1, r2, r3⟩ := four_fr HF4.out.r)))
    all_goals
      have HO4 := hide (hO4 W.heap.size (Cde.own_mono hO (show W.heap.size ≤ V2.drew.heap.size from HF1.out.lo.size)) HF3.out.lo.size)
      clear k0 k1 k2 k3 l0 l1 l2 l3 p0 p1 p2 p3 r0 r1 r2 r3 hO hb hO4 hb4 HFo HHa HS x0 x1 x2 x3 HF3 h0 hr
      have hq := own_ne HO4.out HF4.out.r (by decide)
      have hlen := (fd_means h0').2.1
      rw [HLn.out] at hlen
      generalize hu : fdO f d L out = u at *
      generalize hI : fdL f d L out = I at *
      have HO5 := hide (s4_own HO4.out hq (.int .i64 f) (.int .i64 d) (.slice a2' n c2') (.int .i64 u))
      have HF5 := hide (HF4.out.put (.int .i64 f) (.int .i64 d) (.slice a2' n c2') (.int .i64 u))
      obtain ⟨V5, hV5⟩ : ∃ V5, (((V4.setCell ⟨W.heap.size + 1, 0, none⟩ (.int .i64 f)).setCell ⟨W.heap.size + 1, 1, none⟩ (.int .i64 d)).setCell ⟨W.heap.size + 1, 2, none⟩ (.slice a2' n c2')).setCell ⟨W.heap.size + 1, 3, none⟩ (.int .i64 u) = V5 := ⟨_, rfl⟩
      unfold s4 at HO5 HF5
      rw [hV5] at HO5 HF5 ⊢
      clear hV5 hq HF4 HO4
      go_wp2_with fail
      obtain ⟨q0, q1, q2, q3⟩ := four_of HF5.out.r
      exact bodyPost_ret (v := .tuple #[.agg (cd f d a2' n c2' u), .int .i64 0]) (by simp [results, Tryz.results74, go_sem, q0, q1, q2, q3]) rfl (FoP.row h0' hI hu hlen HO5.out HF5.out.lo)
  · have hr : (er != 0) = true := by simpa using h0
    go_upto_region 3 with fail
    obtain ⟨V2, hV2⟩ : ∃ V2, V1.alloc (.cells #[.slice ga m gc, .int .i64 co, .int .i64 0] 47) = V2 := ⟨_, rfl⟩
    rw [hV2] at HF1 ⊢
    clear x0 x1 x2 x3 p0 p1 p2 p3 z0 z1 hV2
    obtain ⟨p0, p1, p2, p3⟩ := four_of HF1.out.r
    obtain ⟨r0, r1, r2, r3⟩ := four_fr HF1.out.r
    obtain ⟨V3, hV3⟩ : ∃ V3, (((V2.setCell ⟨W.heap.size + 1, 0, none⟩ (.int .i64 0)).setCell ⟨W.heap.size + 1, 1, none⟩ (.int .i64 0)).setCell ⟨W.heap.size + 1, 2, none⟩ (.slice none 0 0)).setCell ⟨W.heap.size + 1, 3, none⟩ (.int .i64 0) = V3 := ⟨_, rfl⟩
    have HF2 : Hid (Fg W V3 (cd f d a n cap out) cdz) := hide (by rw [← hV3]; exact HF1.out.put (.int .i64 0) (.int .i64 0) (.slice none 0 0) (.int .i64 0))
    go_wp2_with fail
    obtain ⟨q0, q1, q2, q3⟩ := four_of HF2.out.r
    exact bodyPost_ret (v := .tuple #[.agg cdz, .int .i64 er]) (by simp [results, Tryz.results74, go_sem, q0, q1, q2, q3]) rfl (FoP.no HEr.out h0 HF2.out.lo)

end Go.Proofs.Fld
