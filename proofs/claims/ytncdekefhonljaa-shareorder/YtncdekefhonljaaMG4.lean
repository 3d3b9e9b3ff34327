/-
  share.shared: the new code of one that is taken.
-/
import Derived.Test.YtncdekefhonljaaMG1
import Derived.Test.YtncdekefhonljaaMG2
import Derived.Test.YtncdekefhonljaaMG3
namespace Go.Proofs.Shr
open Go.RowKit Go.IntWalk Ytncdekefhonljaa.Knd
open Cde (In i0 ia kd cd Ins at6 six_of four_of two_of has_new1 okI okT below_drew is6 i6 zA take_snoc)
open Fld (thI fthrough_any)
open Vfy (vfE)
set_option linter.unusedVariables false

/-- shared's boxes, lists and table. -/
structure Fm (W V : World) (cv : Array Value) (mv tv : Value) (M : List In) (T : List Int) (b m : Nat) (N : List In) : Prop where
  f : Fb W V cv mv tv M T
  o : Own V b m N
  hb : W.heap.size ≤ b
theorem Fm.below {W V V' : World} {cv : Array Value} {mv tv : Value} {M N : List In} {T : List Int} {b m : Nat} (h : Fm W V cv mv tv M T b m N) (hb : Below V.heap.size V V') : Fm W V' cv mv tv M T b m N := ⟨h.f.below hb, h.o.below hb, h.hb⟩
theorem Fm.growM {W V w' : World} {cv : Array Value} {mv tv mv' : Value} {M M' N : List In} {T : List Int} {b m : Nat} (h : Fm W V cv mv tv M T b m N) (hg : V.grownBy w' mv.ownBlock) (hO : w'.ownsRow W.heap.size 23 6 mv' M'.length (is6 M')) : Fm W w' cv mv' tv M' T b m N :=
  ⟨h.f.growM hg hO, h.o.kept hg (h.o.ne_row h.f.m), h.hb⟩
theorem Fm.growT {W V w' : World} {cv : Array Value} {mv tv tv' : Value} {M N : List In} {T T' : List Int} {b m : Nat} (h : Fm W V cv mv tv M T b m N) (hg : V.grownBy w' tv.ownBlock) (hO : w'.ownsRow W.heap.size 3 1 tv' T'.length (i64s T')) : Fm W w' cv mv tv' M T' b m N :=
  ⟨h.f.growT hg hO, h.o.kept hg (h.o.ne_row h.f.t), h.hb⟩
theorem Fm.mono {W V : World} {cv : Array Value} {mv tv : Value} {M N : List In} {T : List Int} {b m m' : Nat} (h : Fm W V cv mv tv M T b m N) (hm : m ≤ m') : Fm W V cv mv tv M T b m' N := ⟨h.f, h.o.mono hm, h.hb⟩
theorem row_kept {V w' : World} {base size n b : Nat} {e : TypeId} {v : Value} {xs : List Value} (h : V.ownsRow base e size v n xs) (hg : V.grownBy w' (some b)) (hne : v.ownBlock ≠ some b) : w'.ownsRow base e size v n xs := h.kept hg (.inr hne)
/-- .. with the instruction that is looked at. -/
structure Fn (W V : World) (cv : Array Value) (mv tv : Value) (M : List In) (T : List Int) (g : Nat) (n : In) (b m : Nat) (N : List In) : Prop where
  c : Fc W V cv mv tv M T g n
  o : Own V b m N
  hb : W.heap.size ≤ b
theorem Fn.m {W V : World} {cv : Array Value} {mv tv : Value} {M N : List In} {T : List Int} {g b m : Nat} {n : In} (h : Fn W V cv mv tv M T g n b m N) : Fm W V cv mv tv M T b m N := ⟨h.c.f, h.o, h.hb⟩
theorem Fn.below {W V V' : World} {cv : Array Value} {mv tv : Value} {M N : List In} {T : List Int} {g b m : Nat} {n : In} (h : Fn W V cv mv tv M T g n b m N) (hb : Below V.heap.size V V') : Fn W V' cv mv tv M T g n b m N := ⟨h.c.below hb, h.o.below hb, h.hb⟩
theorem Fn.put {W V : World} {cv : Array Value} {mv tv : Value} {M N : List In} {T : List Int} {g b m : Nat} {n : In} (h : Fn W V cv mv tv M T g n b m N) (k : In) : Fn W (s6 V g k) cv mv tv M T g k b m N :=
  have hg := h.o.ne_has h.c.n
  ⟨h.c.put k, (((((h.o.set (a := ⟨g, 0, none⟩) hg _).set (a := ⟨g, 1, none⟩) hg _).set (a := ⟨g, 2, none⟩) hg _).set (a := ⟨g, 3, none⟩) hg _).set (a := ⟨g, 4, none⟩) hg _).set (a := ⟨g, 5, none⟩) hg _, h.hb⟩
theorem Fm.with {W V : World} {cv : Array Value} {mv tv : Value} {M N : List In} {T : List Int} {b m : Nat} (h : Fm W V cv mv tv M T b m N) (n : In) : Fn W (V.alloc (.cells (ia n) 23)) cv mv tv M T V.heap.size n b m N :=
  ⟨h.f.with n, h.o.below (bel1 _ _), h.hb⟩
/-- The table has grown. -/
theorem Fn.tab {W V w' : World} {cv : Array Value} {mv tv : Value} {M N N' : List In} {T : List Int} {g b m m' : Nat} {n : In} (h : Fn W V cv mv tv M T g n b m N) (hg : V.grownBy w' (some b)) (hO : Own w' b m' N') : Fn W w' cv mv tv M T g n b m' N' := by
  have h1 := h.o.ne_has h.c.f.c
  have h2 := h.o.ne_has h.c.f.o
  have h3 := h.o.ne_has h.c.n
  refine ⟨⟨⟨h.c.f.c.kept hg (fun e => by cases e; exact h1 rfl), h.c.f.o.kept hg (fun e => by cases e; exact h2 rfl), row_kept h.c.f.m hg (h.o.ne_row h.c.f.m), row_kept h.c.f.t hg (h.o.ne_row h.c.f.t), h.c.f.lo.grown hg h.c.f.lo.size fun k hk => by cases hk; exact h.hb⟩, h.c.n.kept hg (fun e => by cases e; exact h3 rfl), h.c.hb, h.c.hm⟩, hO, h.hb⟩
theorem shS_at {M : List In} {T : List Int} {n m : In} (h : shM n T = m) : shS (M, T) n = (M ++ [m], T ++ [((M.idxOf m : Nat) : Int)]) := by
  simp [shS, h]

set_option maxRecDepth 100000 in
set_option maxHeartbeats 8000000 in
theorem gshared_any (f d out : Int) {a : Option Addr} {n cap : Nat} {L : List In} {W : World} (hL : Ins W a n cap L) (h : vfE f d L out = 0) :
    Calls Try.prog 18 #[.agg (cd f d a n cap out)] W fun e W' => ∃ a' c', e = .returned (.agg (cd f d a' n c' (shO L out))) ∧ W'.ownsRow W.heap.size 23 6 (.slice a' n c') n (is6 (shF L).1) ∧ Below W.heap.size W W' := by
  obtain ⟨mc, -⟩ := Vfy.vf_parts h
  obtain ⟨-, m1, m2, o0, o1, -⟩ := Cde.mc_parts mc
  rw [hL.len] at m1 m2 o1
  obtain ⟨o, rfl⟩ : ∃ o : Nat, out = o := ⟨out.toNat, by omega⟩
  obtain ⟨cs1, hs1, hmk1⟩ := make_fs n (by omega)
  obtain ⟨cs2, hs2, hmk2⟩ := make_ti n (by omega)
  have hmk3 := run_make (n : Int)
  have HLI := hide hL
  have HLn := hide hL.len
  have HOk := hide fun k (hk : k < n) => ok_wf (sh_ok h (k := k) (by rw [hL.len]; exact hk)) (by omega)
  have HSu := hide fun k (hk : k < n) => shF_succ (L := L) (k := k) (by rw [hL.len]; exact hk)
  have HF0 : Hid (Fm W (((((W.alloc (.cells (cd f d a n cap (o : Int)) 31)).alloc (.cells cdz 31)).alloc (.cells cs1 23)).alloc (.cells cs2 3)).alloc (.map #[] 0)) (cd f d a n cap (o : Int)) (.slice (some ⟨W.heap.size + 1 + 1, 0, none⟩) 0 n) (.slice (some ⟨W.heap.size + 1 + 1 + 1, 0, none⟩) 0 n) [] [] (W.heap.size + 1 + 1 + 1 + 1) 0 []) := by
    have b1 := bel1 W (.cells (cd f d a n cap (o : Int)) 31)
    have b2 := bel b1 (bel1 _ (.cells cdz 31))
    have b3 := bel b2 (bel1 _ (.cells cs1 23))
    have b4 := bel b3 (bel1 _ (.cells cs2 3))
    have h1 := ((HasC.new W 31 (cd f d a n cap (o : Int))).alloc (.cells cdz 31)).alloc (.cells cs1 23)
    have h2 := ((has_new1 W (.cells (cd f d a n cap (o : Int)) 31) 31 cdz).alloc (.cells cs1 23))
    have h3 := HasC.new ((W.alloc (.cells (cd f d a n cap (o : Int)) 31)).alloc (.cells cdz 31)) 23 cs1
    have h4 := HasC.new (((W.alloc (.cells (cd f d a n cap (o : Int)) 31)).alloc (.cells cdz 31)).alloc (.cells cs1 23)) 3 cs2
    have h5 := Own.made ((((W.alloc (.cells (cd f d a n cap (o : Int)) 31)).alloc (.cells cdz 31)).alloc (.cells cs1 23)).alloc (.cells cs2 3))
    rw [World.size_alloc, World.size_alloc] at h3
    rw [World.size_alloc, World.size_alloc, World.size_alloc] at h4
    rw [World.size_alloc, World.size_alloc, World.size_alloc, World.size_alloc] at h5
    exact ⟨Fb.below ⟨h1.alloc _, h2.alloc _, own_start (h3.alloc _) hs1 (by omega) (by omega), own_start h4 hs2 (by omega) (by omega), b4⟩ (bel1 _ _), h5, by omega⟩
  clear hL h mc hs1 hs2
  go_enter Try.func18, Try.ntmps18
  go_wp2_with fail
  clear hmk1 hmk2 hmk3
  generalize hgm : W.heap.size + 1 + 1 + 1 + 1 = mb at *
  clear hgm
  go_loopw [3, 4, 25] (fun mv tv i wr => ∃ (k gm cm gt ct : Nat) (M : List In) (T : List Int), k ≤ n ∧ i = .int .i64 k ∧ mv = .slice (some ⟨gm, 0, none⟩) k cm ∧ tv = .slice (some ⟨gt, 0, none⟩) k ct ∧ Hid (shF (L.take k) = (M, T)) ∧ Hid (M.length = k) ∧ Hid (T.length = k) ∧ Hid (Fm W wr (cd f d a n cap (o : Int)) (.slice (some ⟨gm, 0, none⟩) k cm) (.slice (some ⟨gt, 0, none⟩) k ct) M T mb k M)) (fun _ _ i _ => n - (intOf i).toNat)
  case atStart => exact ⟨0, _, _, _, _, [], [], Nat.zero_le _, rfl, rfl, rfl, hide rfl, hide rfl, hide rfl, HF0⟩
  case round =>
    obtain ⟨k, gm, cm, gt, ct, M, T, hk, rfl, rfl, rfl, HM, HMl, HTl, HF⟩ := hrel
    rename World => V
    clear HF0
    by_cases hlt : k < n
    · obtain ⟨b, off, rfl, -, hat⟩ := (HLI.out.later HF.out.f.lo).at (by omega)
      obtain ⟨e0, e1, e2, e3, e4, e5⟩ := hat k hlt
      clear hat
      have hi0 : (0 : Int) ≤ k := by omega
      have hi1 : (k : Int) < n := by omega
      have hOk := HOk.out k hlt
      have hSu := HSu.out k hlt
      rw [HM.out] at hOk hSu
      generalize L.getD k i0 = q at *
      have HC0 := hide (HF.out.with q)
      have HTh := hide (fthrough_any q (HC0.out.c.f.ints HTl.out))
      have HOr := hide fun V => gorder_any (thI q T) V
      rw [show orI (thI q T) = shM q T from rfl] at HOr
      dsimp only at hOk
      obtain ⟨m, hm⟩ : ∃ m, shM q T = m := ⟨_, rfl⟩
      rw [shS_at hm] at hSu
      rw [hm] at HOr hOk
      have HZ := hide hSu
      have HW := hide hOk
      clear hOk hSu hm
      go_wp2_with fail
      refine HTh.out.mono ?_
      rintro e V1 ⟨rfl, hb⟩
      have HC1 := hide (HC0.out.below hb)
      clear hb HC0 HTh e0 e1 e2 e3 e4 e5
      generalize thI q T = m0 at *
      generalize hgb : V.heap.size = gb at *
      go_wp2_with fail
      refine (HOr.out _).mono ?_
      rintro e V2 ⟨rfl, hb⟩
      have HC2 := hide (HC1.out.below hb)
      clear hb HC1 HOr
      have hb0 := HC2.out.c.hb
      have hb1 : W.heap.size < gb := by omega
      obtain ⟨e0, e1, e2, e3, e4, e5⟩ := six_of HC2.out.c.n
      obtain ⟨r0, r1, r2, r3, r4, r5⟩ := six_fr HC2.out.c.n
      obtain ⟨V3, hV3⟩ : ∃ V3, (((((V2.setCell ⟨gb, 0, none⟩ (.int .i64 m.op)).setCell ⟨gb, 1, none⟩ (.int .i64 m.a)).setCell ⟨gb, 2, none⟩ (.int .i64 m.b)).setCell ⟨gb, 3, none⟩ (.int .i64 m.c)).setCell ⟨gb, 4, none⟩ (.int .i64 m.k)).setCell ⟨gb, 5, none⟩ (.int .i64 m.s) = V3 := ⟨_, rfl⟩
      have HC3 : Hid (Fn W V3 (cd f d (some ⟨b, off, none⟩) n cap (o : Int)) (.slice (some ⟨gm, 0, none⟩) k cm) (.slice (some ⟨gt, 0, none⟩) k ct) M T gb m mb k M) := hide (by rw [← hV3]; exact HC2.out.put m)
      go_upto_region 8 with fail
      clear hV3 HC2 e0 e1 e2 e3 e4 e5 r0 r1 r2 r3 r4 r5
      obtain ⟨e0, e1, e2, e3, e4, e5⟩ := six_of HC3.out.c.n
      by_cases hin : m ∈ M
      · have hd : decide (m ∈ M) = true := by simpa using hin
        have HN := hide (HC3.out.o.old hin)
        obtain ⟨z, hz⟩ : ∃ z, M.idxOf m = z := ⟨_, rfl⟩
        rw [hz] at HZ
        have hd2 : (if m ∈ M then ((M.idxOf m : Nat) : Int) else 0) = (z : Int) := by rw [if_pos hin, hz]
        clear hz
        have HN5 := hide (HasC.new V3 23 (ia m))
        have HF5 : Hid (Fm W (V3.alloc (.cells (ia m) 23)) (cd f d (some ⟨b, off, none⟩) n cap (o : Int)) (.slice (some ⟨gm, 0, none⟩) k cm) (.slice (some ⟨gt, 0, none⟩) k ct) M T mb k (M ++ [m])) := hide (Fm.below ⟨HC3.out.c.f, HN.out, HC3.out.hb⟩ (bel1 V3 (.cells (ia m) 23)))
        go_wp2_with (first
          | (at_lookup; refine wp_look rfl _ _ rfl rfl rfl HC3.out.o HW.out ?_; rw [hd, hd2])
          | (at_builtin; refine ins_list rfl _ _ rfl rfl HF5.out.f.m HF5.out.f.lo.size _ m rfl HN5.out (by rw [HMl.out]; omega) ?_; intro g cap' w2 hown hgr; have HF6 := hide (HF5.out.growM hgr hown); have HF7 := hide (HF6.out.below (bel1 w2 (.cells #[.int .i64 (z : Int)] 3))); have HN7 := hide (HasC.new w2 3 #[.int .i64 (z : Int)]); clear hown hgr e0 e1 e2 e3 e4 e5)
          | (at_builtin; refine int_list rfl _ _ rfl rfl HF7.out.f.t HF7.out.f.lo.size _ (z : Int) rfl HN7.out (by rw [HTl.out]; omega) ?_; intro g2 cap2 w3 hown2 hgr2))
        have HF8 := hide ((HF7.out.growT hgr2 hown2).mono (Nat.le_succ k))
        clear hown2 hgr2
        rw [HMl.out, HTl.out] at HF8 ⊢
        go_wp2_with fail
        go_roundw
        case rel => exact ⟨k + 1, _, _, _, _, M ++ [m], T ++ [(z : Int)], by omega, by go_num, rfl, rfl, HZ, hide (by simp [HMl.out]), hide (by simp [HTl.out]), HF8⟩
        case measure => simp [intOf]; omega
      · have hd : decide (m ∈ M) = false := by simpa using hin
        have hd2 : (if m ∈ M then ((M.idxOf m : Nat) : Int) else 0) = 0 := if_neg hin
        have hz : M.idxOf m = k := by rw [List.idxOf_eq_length hin, HMl.out]
        rw [hz] at HZ
        go_wp2_with (first
          | (at_lookup; refine wp_look rfl _ _ rfl rfl rfl HC3.out.o HW.out ?_; rw [hd, hd2])
          | (at_mapUpdate; refine wp_put rfl _ _ _ rfl rfl rfl k rfl HMl.out HC3.out.o HW.out hin (by omega) (by omega) ?_; intro V4 hO4 hg4; have HC4 := hide (HC3.out.tab hg4 hO4); clear hO4 hg4 e0 e1 e2 e3 e4 e5; obtain ⟨e0, e1, e2, e3, e4, e5⟩ := six_of HC4.out.c.n; have HN5 := hide (HasC.new V4 23 (ia m)); have HF5 := hide (HC4.out.m.below (bel1 V4 (.cells (ia m) 23))))
          | (at_builtin; refine ins_list rfl _ _ rfl rfl HF5.out.f.m HF5.out.f.lo.size _ m rfl HN5.out (by rw [HMl.out]; omega) ?_; intro g cap' w2 hown hgr; have HF6 := hide (HF5.out.growM hgr hown); have HF7 := hide (HF6.out.below (bel1 w2 (.cells #[.int .i64 (k : Int)] 3))); have HN7 := hide (HasC.new w2 3 #[.int .i64 (k : Int)]); clear hown hgr e0 e1 e2 e3 e4 e5)
          | (at_builtin; refine int_list rfl _ _ rfl rfl HF7.out.f.t HF7.out.f.lo.size _ (k : Int) rfl HN7.out (by rw [HTl.out]; omega) ?_; intro g2 cap2 w3 hown2 hgr2))
        have HF8 := hide (HF7.out.growT hgr2 hown2)
        clear hown2 hgr2
        rw [HMl.out, HTl.out] at HF8 ⊢
        go_wp2_with fail
        go_roundw
        case rel => exact ⟨k + 1, _, _, _, _, M ++ [m], T ++ [(k : Int)], by omega, by go_num, rfl, rfl, HZ, hide (by simp [HMl.out]), hide (by simp [HTl.out]), HF8⟩
        case measure => simp [intOf]; omega
    · obtain rfl : k = n := by omega
      have hM := HM.out
      rw [List.take_of_length_le (by rw [HLn.out]; exact Nat.le_refl _)] at hM
      have HM2 := hide hM
      obtain ⟨c0, c1, c2, c3⟩ := four_of HF.out.f.c
      have hf0 := HF.out.f.o.frozen 0
      have hf1 := HF.out.f.o.frozen 1
      have hf2 := HF.out.f.o.frozen 2
      have hf3 := HF.out.f.o.frozen 3
      obtain ⟨p0, p1, p2, p3⟩ := four_of HF.out.f.o
      obtain ⟨b2, o2, e2', -, hat⟩ := (HF.out.f.ints HTl.out).at (by omega)
      cases e2'
      have t0 := hat o (by omega)
      rw [Nat.zero_add] at t0
      have hw0 : W.heap.size < V.heap.size := HF.out.f.c.lt
      have hw1 : W.heap.size + 1 < V.heap.size := HF.out.f.o.lt
      have i0' : (0 : Int) ≤ o := by omega
      have i1' : (o : Int) < k := by omega
      clear hat hM HM HOk HSu
      obtain ⟨z, hz⟩ : ∃ z, T.getD o 0 = z := ⟨_, rfl⟩
      rw [hz] at t0
      have HZ := hide hz
      clear hz
      go_wp2_with fail
      go_region
      have hq : (Value.slice (some ⟨gm, 0, none⟩) k cm).ownBlock ≠ some (W.heap.size + 1) := own_ne HF.out.f.m HF.out.f.o (by decide)
      have HO5 := hide (((((HF.out.f.o.set 0 (.int .i64 f)).set 1 (.int .i64 d)).set 2 (.slice (some ⟨gm, 0, none⟩) k cm)).set 3 (.int .i64 z)).below (below_drew _))
      have HM5 := hide ((ownsRow_setCell_other (ownsRow_setCell_other (ownsRow_setCell_other (ownsRow_setCell_other HF.out.f.m (a := ⟨W.heap.size + 1, 0, none⟩) hq (.int .i64 f)) (a := ⟨W.heap.size + 1, 1, none⟩) hq (.int .i64 d)) (a := ⟨W.heap.size + 1, 2, none⟩) hq (.slice (some ⟨gm, 0, none⟩) k cm)) (a := ⟨W.heap.size + 1, 3, none⟩) hq (.int .i64 z)).drew)
      have HB5 := hide (((((HF.out.f.lo.setCell (p := ⟨W.heap.size + 1, 0, none⟩) (by simp) (.int .i64 f)).setCell (p := ⟨W.heap.size + 1, 1, none⟩) (by simp) (.int .i64 d)).setCell (p := ⟨W.heap.size + 1, 2, none⟩) (by simp) (.slice (some ⟨gm, 0, none⟩) k cm)).setCell (p := ⟨W.heap.size + 1, 3, none⟩) (by simp) (.int .i64 z)).drew)
      obtain ⟨V5, hV5⟩ : ∃ V5, ((((V.setCell ⟨W.heap.size + 1, 0, none⟩ (.int .i64 f)).setCell ⟨W.heap.size + 1, 1, none⟩ (.int .i64 d)).setCell ⟨W.heap.size + 1, 2, none⟩ (.slice (some ⟨gm, 0, none⟩) k cm)).setCell ⟨W.heap.size + 1, 3, none⟩ (.int .i64 z)).drew = V5 := ⟨_, rfl⟩
      rw [hV5] at HO5 HM5 HB5 ⊢
      obtain ⟨x0, x1, x2, x3⟩ := four_of HO5.out
      rw [HMl.out] at HM5
      clear hV5 c0 c1 c2 c3 p0 p1 p2 p3 hf0 hf1 hf2 hf3 t0 hq
      go_wp2_with fail
      have HR : Hid ((shF L).1 = M ∧ shO L (o : Int) = z) := hide (by rw [shO, HM2.out]; exact ⟨rfl, HZ.out⟩)
      exact bodyPost_ret (v := .agg (cd f d (some ⟨gm, 0, none⟩) k cm z)) (by simp [results, Try.results18, go_sem, x0, x1, x2, x3]) rfl ⟨_, _, by rw [HR.out.2], by rw [HR.out.1]; exact HM5.out, HB5.out⟩

end Go.Proofs.Shr
