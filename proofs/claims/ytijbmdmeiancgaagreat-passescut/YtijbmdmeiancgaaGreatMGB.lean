/-
  share.shared: the new code of one that is taken.
-/
import Derived.Test.YtijbmdmeiancgaaGreatMG1
import Derived.Test.YtijbmdmeiancgaaGreatMG2
import Derived.Test.YtijbmdmeiancgaaGreatMG3
namespace Go.Proofs.Shr
open Go.RowKit Go.IntWalk YtijbmdmeiancgaaGreat.Knd
open Cde (In i0 ia kd cd Ins at6 six_of four_of two_of has_new1 okI okT below_drew is6 i6 zA take_snoc)
open Fld (thI fthrough_any)
open Vfy (vfE)
set_option linter.unusedVariables false

/-- shared's boxes, lists and table. -/
structure Fm (W V : World) (cv : Array Value) (mv tv : Value) (M : List In) (T : List Int) (b m : Nat) (N : List In) : Prop where
  f : Fb W V cv mv tv M T
  o : Own V b m N
  hb : W.heap.size ≤ b
theorem Fm.below {W V V' : World} {cv : Array Value} {mv tv : Value} {M N : List In} {T : List Int} {b m : Nat} (h : Fm W V cv mv tv M T b m N) (hb : Below V.heap.size V V') : Fm W V' cv mv tv M T b m N := ⟨h.f.below hb, h.o.below hb, h.hb⟩
theorem Fm.growM {W V w' : World} {cv : Array Value} {mv tv mv' : Value} {M M' N : List In} {T : List Int} {b m : Nat} (h : Fm W V cv mv tv M T b m N) (hg : V.grownBy w' mv.ownBlock) (hO : w'.ownsRow W.heap.size 57 6 mv' M'.length (is6 M')) : Fm W w' cv mv' tv M' T b m N :=
  ⟨h.f.growM hg hO, h.o.kept hg (h.o.ne_row h.f.m), h.hb⟩
theorem Fm.growT {W V w' : World} {cv : Array Value} {mv tv tv' : Value} {M N : List In} {T T' : List Int} {b m : Nat} (h : Fm W V cv mv tv M T b m N) (hg : V.grownBy w' tv.ownBlock) (hO : w'.ownsRow W.heap.size 3 1 tv' T'.length (i64s T')) : Fm W w' cv mv tv' M T' b m N :=
  ⟨h.f.growT hg hO, h.o.kept hg (h.o.ne_row h.f.t), h.hb⟩
theorem Fm.mono {W V : World} {cv : Array Value} {mv tv : Value} {M N : List In} {T : List Int} {b m m' : Nat} (h : Fm W V cv mv tv M T b m N) (hm : m ≤ m') : Fm W V cv mv tv M T b m' N := ⟨h.f, h.o.mono hm, h.hb⟩
theorem row_kept {V w' : World} {base size n b : Nat} {e : TypeId} {v : Value} {xs : List Value} (h : V.ownsRow base e size v n xs) (hg : V.grownBy w' (some b)) (hne : v.ownBlock ≠ some b) : w'.ownsRow base e size v n xs := h.kept hg (.inr hne)
/-- .. with the instruction that is looked at. -/
structure Fn (W V : World) (cv : Array Value) (mv tv : Value) (M : List In) (T : List Int) (g : Nat) (n : In) (b m : Nat) (N : List In) : Prop where
  c : Fc W V cv mv tv M T g n
  o : Own V b m N
  hb : W.heap.size ≤ b
theorem Fn.m {W V : World} {cv : Array Value} {mv tv : Value} {M N : List In} {T : List Int} {g b m : Nat} {n : In} (h : Fn W V cv mv tv M T g n b m N) : Fm W V cv mv tv M T b m N := ⟨h.c.f, h.o, h.hb⟩
theorem Fn.below {W V V' : World} {cv : Array Value} {mv tv : Value} {M N : List In} {T : List Int} {g b m : Nat} {n : In} (h : Fn W V cv mv tv M T g n b m N) (hb : Below V.heap.size V V') : Fn W V' cv mv tv M T g n b m N := ⟨h.c.below hb, h.o.below hb, h.hb⟩
theorem Fn.put {W V : World} {cv : Array Value} {mv tv : Value} {M N : List In} {T : List Int} {g b m : Nat} {n : In} (h : Fn W V cv mv tv M T g n b m N) (k : In) : Fn W (s6 V g k) cv mv tv M T g k b m N :=
  have hg := h.o.ne_has h.c.n
  ⟨h.c.put k, (((((h.o.set (a := ⟨g, 0, none⟩) hg _).set (a := ⟨g, 1, none⟩) hg _).set (a := ⟨g, 2, none⟩) hg _).set (a := ⟨g, 3, none⟩) hg _).set (a := ⟨g, 4, none⟩) hg _).set (a := ⟨g, 5, none⟩) hg _, h.hb⟩
theorem Fm.with {W V : World} {cv : Array Value} {mv tv : Value} {M N : List In} {T : List Int} {b m : Nat} (h : Fm W V cv mv tv M T b m N) (n : In) : Fn W (V.alloc (.cells (ia n) 57)) cv mv tv M T V.heap.size n b m N :=
  ⟨h.f.with n, h.o.below (bel1 _ _), h.hb⟩
/-- The table has grown. -/
theorem Fn.tab {W V w' : World} {cv : Array Value} {mv tv : Value} {M N N' : List In} {T : List Int} {g b m m' : Nat} {n : In} (h : Fn W V cv mv tv M T g n b m N) (hg : V.grownBy w' (some b)) (hO : Own w' b m' N') : Fn W w' cv mv tv M T g n b m' N' := by
  have h1 := h.o.ne_has h.c.f.c
  have h2 := h.o.ne_has h.c.f.o
  have h3 := h.o.ne_has h.c.n
  refine ⟨⟨⟨h.c.f.c.kept hg (fun e => by cases e; exact h1 rfl), h.c.f.o.kept hg (fun e => by cases e; exact h2 rfl), row_kept h.c.f.m hg (h.o.ne_row h.c.f.m), row_kept h.c.f.t hg (h.o.ne_row h.c.f.t), h.c.f.lo.grown hg h.c.f.lo.size fun k hk => by cases hk; exact h.hb⟩, h.c.n.kept hg (fun e => by cases e; exact h3 rfl), h.c.hb, h.c.hm⟩, hO, h.hb⟩
theorem shS_at {M : List In} {T : List Int} {n m : In} (h : shM n T = m) : shS (M, T) n = (M ++ [m], T ++ [((M.idxOf m : Nat) : Int)]) := by
  simp [shS, h]

set_option maxRecDepth 100000 in
set_option maxHeartbeats 8000000 in
theorem gshared_any (f d out : Int) {a : Option Addr} {n cap : Nat} {L : List In} {W : World} (hL : Ins W a n cap L) (h : vfE f d L out = 0) :
    Calls Tryz.prog 107 #[.agg (cd f d a n cap out)] W fun e W' => ∃ a' c', e = .returned (.agg (cd f d a' n c' (shO L out))) ∧ W'.ownsRow W.heap.size 57 6 (.slice a' n c') n (is6 (shF L).1) ∧ Below W.heap.size W W' := by
  obtain ⟨mc, -⟩ := Vfy.vf_parts h
  obtain ⟨-, m1, m2, o0, o1, -⟩ := Cde.mc_parts mc
  rw [hL.len] at m1 m2 o1
  obtain ⟨o, rfl⟩ : ∃ o : Nat, out = o := ⟨out.toNat, by omega⟩
  obtain ⟨cs1, hs1, hmk1⟩ := make_fs n (by omega)
  obtain ⟨cs2, hs2, hmk2⟩ := make_ti n (by omega)
  have hmk3 := run_make (n : Int)
  have HLI := hide hL
  have HLn := hide hL.len
  have HOk := hide fun k (hk : k < n) => ok_wf (sh_ok h (k := k) (by rw [hL.len]; exact hk)) (by omega)
  have HSu := hide fun k (hk : k < n) => shF_succ (L := L) (k := k) (by rw [hL.len]; exact hk)
  have HF0 : Hid (Fm W (((((W.alloc (.cells (cd f d a n cap (o : Int)) 26)).alloc (.cells cdz 26)).alloc (.cells cs1 57)).alloc (.cells cs2 3)).alloc (.map #[] 0)) (cd f d a n cap (o : Int)) (.slice (some ⟨W.heap.size + 1 + 1, 0, none⟩) 0 n) (.slice (some ⟨W.heap.size + 1 + 1 + 1, 0, none⟩) 0 n) [] [] (W.heap.size + 1 + 1 + 1 + 1) 0 []) := by
    have b1 := bel1 W (.cells (cd f d a n cap (o : Int)) 26)
    have b2 := bel b1 (bel1 _ (.cells cdz 26))
    have b3 := bel b2 (bel1 _ (.cells cs1 57))
    have b4 := bel b3 (bel1 _ (.cells cs2 3))
    have h1 := ((HasC.new W 26 (cd f d a n cap (o : Int))).alloc (.cells cdz 26)).alloc (.cells cs1 57)
    have h2 := ((has_new1 W (.cells (cd f d a n cap (o : Int)) 26) 26 cdz).alloc (.cells cs1 57))
    have h3 := HasC.new ((W.alloc (.cells (cd f d a n cap (o : Int)) 26)).alloc (.cells cdz 26)) 57 cs1
    have h4 := HasC.new (((W.alloc (.cells (cd f d a n cap (o : Int)) 26)).alloc (.cells cdz 26)).alloc (.cells cs1 57)) 3 cs2
    have h5 := Own.made ((((W.alloc (.cells (cd f d a n cap (o : Int)) 26)).alloc (.cells cdz 26)).alloc (.cells cs1 57)).alloc (.cells cs2 3))
    rw [World.size_alloc, World.size_alloc] at h3
    rw [World.size_alloc, World.size_alloc, World.size_alloc] at h4
    rw [World.size_alloc, World.size_alloc, World.size_alloc, World.size_alloc] at h5
    exact ⟨Fb.below ⟨h1.alloc _, h2.alloc _, own_start (h3.alloc _) hs1 (by omega) (by omega), own_start h4 hs2 (by omega) (by omega), b4⟩ (bel1 _ _), h5, by omega⟩
  clear hL h mc hs1 hs2
  go_enter Tryz.func107, Tryz.ntmps107
  go_wp2_with fail
  clear hmk1 hmk2 hmk3
  generalize hgm : W.heap.size + 1 + 1 + 1 + 1 = mb at *
  clear hgm
  go_loopw [3, 4, 25] (fun mv tv i wr => ∃ (k gm cm gt ct : Nat) (M : List In) (T : List Int), k ≤ n ∧ i = .int .i64 k ∧ mv = .slice (some ⟨gm, 0, none⟩) k cm ∧ tv = .slice (some ⟨gt, 0, none⟩) k ct ∧ Hid (shF (L.take k) = (M, T)) ∧ Hid (M.length = k) ∧ Hid (T.length = k) ∧ Hid (Fm W wr (cd f d a n cap (o : Int)) (.slice (some ⟨gm, 0, none⟩) k cm) (.slice (some ⟨gt, 0, none⟩) k ct) M T mb k M)) (fun _ _ i _ => n - (intOf i).toNat)
  case atStart => exact ⟨0, _, _, _, _, [], [], Nat.zero_le _, rfl, rfl, rfl, hide rfl, hide rfl, hide rfl, HF0⟩
  case round =>
    obtain ⟨k, gm, cm, gt, ct, M, T, hk, rfl, rfl, rfl, HM, HMl, HTl, HF⟩ := hrel
    rename World => V
    clear HF0
    by_cases hlt : k < n
    · obtain ⟨b, off, rfl, -, hat⟩ := (HLI.out.later HF.out.f.lo).at (by omega)
      obtain ⟨e0, e1, e2, e3, e4, e5⟩ := hat k hlt
      clear hat
      have hi0 : (0 : Int) ≤ k := by omega
      have hi1 : (k : Int) < n := by omega
      have hOk := HOk.out k hlt
      have hSu := HSu.out k hlt
      rw [HM.out] at hOk hSu
      generalize L.getD k i0 = q at *
      have HC0 := hide (HF.out.with q)
      have HTh := hide (fthrough_any q (HC0.out.c.f.ints HTl.out))
      have HOr := hide fun V => gorder_any (thI q T) V
      rw [show orI (thI q T) = shM q T from rfl] at HOr
      dsimp only at hOk
      obtain ⟨m, hm⟩ : ∃ m, shM q T = m := ⟨_, rfl⟩
      rw [shS_at hm] at hSu
      rw [hm] at HOr hOk
      have HZ := hide hSu
      have HW := hide hOk
      clear hOk hSu hm
      go_wp2_with fail
      refine HTh.out.mono ?_
      rintro e V1 ⟨rfl, hb⟩
      have HC1 := hide (HC0.out.below hb)
      clear hb HC0 HTh e0 e1 e2 e3 e4 e5
      generalize thI q T = m0 at *
      generalize hgb : V.heap.size = gb at *
      go_wp2_with fail
      refine (HOr.out _).mono ?_
      rintro e V2 ⟨rfl, hb⟩
      have HC2 := hide (HC1.out.below hb)
      clear hb HC1 HOr
      have hb0 := HC2.out.c.hb
      have hb1 : W.heap.size < gb := by omega
      obtain ⟨e0, e1, e2, e3, e4, e5⟩ := six_of HC2.out.c.n
      obtain ⟨r0, r1, r2, r3, r4, r5⟩ := six_fr HC2.out.c.n
      obtain ⟨V3, hV3⟩ : ∃ V3, (((((V2.setCell ⟨gb, 0, none⟩ (.int .i64 m.op)).setCell ⟨gb, 1, none⟩ (.int .i64 m.a)).setCell ⟨gb, 2, none⟩ (.int .i64 m.b)).setCell ⟨gb, 3, none⟩ (.int .i64 m.c)).setCell ⟨gb, 4, none⟩ (.int .i64 m.k)).setCell ⟨gb, 5, none⟩ (.int .i64 m.s) = V3 := ⟨_, rfl⟩
      have HC3 : Hid (Fn W V3 (cd f d (some ⟨b, off, none⟩) n cap (o : Int)) (.slice (some ⟨gm, 0, none⟩) k cm) (.slice (some ⟨gt, 0, none⟩) k ct) M T gb m mb k M) := hide (by rw [← hV3]; exact HC2.out.put m)
      go_upto_region 8 with fail
      clear hV3 HC2 e0 e1 e2 e3 e4 e5 r0 r1 r2 r3 r4 r5
      obtain ⟨e0, e1, e2, e3, e4, e5⟩ := six_of HC3.out.c.n
      by_cases hin : m ∈ M
      · have hd : decide (m ∈ M) = true := by simpa using hin
        have HN := hide (HC3.out.o.old hin)
        obtain ⟨z, hz⟩ : ∃ z, M.idxOf m = z := ⟨_, rfl⟩
        rw [hz] at HZ
        have hd2 : (if m ∈ M then ((M.idxOf m : Nat) : Int) else 0) = (z : Int) := by rw [if_pos hin, hz]
        clear hz
        have HN5 := hide (HasC.new V3 57 (ia m))
        have HF5 : Hid (Fm W (V3.alloc (.cells (ia m) 57)) (cd f d (some ⟨b, off, none⟩) n cap (o : Int)) (.slice (some ⟨gm, 0, none⟩) k cm) (.slice (some ⟨gt, 0, none⟩) k ct) M T mb k (M ++ [m])) := hide (Fm.below ⟨HC3.out.c.f, HN.out, HC3.out.hb⟩ (bel1 V3 (.cells (ia m) 57)))
        go_wp2_with (first
          | (at_lookup; refine wp_look rfl _ _ rfl rfl rfl HC3.out.o HW.out ?_; rw [hd, hd2])
          | (at_builtin; refine ins_list rfl _ _ rfl rfl HF5.out.f.m HF5.out.f.lo.size _ m rfl HN5.out (by rw [HMl.out]; omega) ?_; intro g cap' w2 hown hgr; have HF6 := hide (HF5.out.growM hgr hown); have HF7 := hide (HF6.out.below (bel1 w2 (.cells #[.int .i64 (z : Int)] 3))); have HN7 := hide (HasC.new w2 3 #[.int .i64 (z : Int)]); clear hown hgr e0 e1 e2 e3 e4 e5)
          | (at_builtin; refine int_list rfl _ _ rfl rfl HF7.out.f.t HF7.out.f.lo.size _ (z : Int) rfl HN7.out (by rw [HTl.out]; omega) ?_; intro g2 cap2 w3 hown2 hgr2))
        have HF8 := hide ((HF7.out.growT hgr2 hown2).mono (Nat.le_succ k))
        clear hown2 hgr2
        rw [HMl.out, HTl.out] at HF8 ⊢
        go_wp2_with fail
        go_roundw
        case rel => exact ⟨k + 1, _, _, _, _, M ++ [m], T ++ [(z : Int)], by omega, by go_num, rfl, rfl, HZ, hide (by simp [HMl.out]), hide (by simp [HTl.out]), HF8⟩
        case measure => simp [intOf]; omega
      · have hd : decide (m ∈ M) = false := by simpa using hin
        have hd2 : (if m ∈ M then ((M.idxOf m : Nat) : Int) else 0) = 0 := if_neg hin
        have hz : M.idxOf m = k := by rw [List.idxOf_eq_length hin, HMl.out]
        rw [hz] at HZ
        go_wp2_with (first
          | (at_lookup; refine wp_look rfl _ _ rfl rfl rfl HC3.out.o HW.out ?_; rw [hd, hd2])
          | (at_mapUpdate; refine wp_put rfl _ _ _ rfl rfl rfl k rfl HMl.out HC3.out.o HW.out hin (by omega) (by omega) ?_; intro V4 hO4 hg4; have HC4 := hide (HC3.out.tab hg4 hO4); clear hO4 hg4 e0 e1 e2 e3 e4 e5; obtain ⟨e0, e1, e2, e3, e4, e5⟩ := six_of HC4.out.c.n; have HN5 := hide (HasC.new V4 57 (ia m)); have HF5 := hide (HC4.out.m.below (bel1 V4 (.cells (ia m) 57))))
          | (at_builtin; refine ins_list rfl _ _ rfl rfl HF5.out.f.m HF5.out.f.lo.size _ m rfl HN5.out (by rw [HMl.out]; omega) ?_; intro g cap' w2 hown hgr; have HF6 := hide (HF5.out.growM hgr hown); have HF7 := hide (HF6.out.below (bel1 w2 (.cells #[.int .i64 (k : Int)] 3))); have HN7 := hide (HasC.new w2 3 #[.int .i64 (k : Int)]); clear hown hgr e0 e1 e2 e3 e4 e5)
          | (at_builtin; refine int_list rfl _ _ rfl rfl HF7.out.f.t HF7.out.f.lo.size _ (k : Int) rfl HN7.out (by rw [HTl.out]; omega) ?_; intro g2 cap2 w3 hown2 hgr2))
        have HF8 := hide (HF7.out.growT hgr2 hown2)
        clear hown2 hgr2
        rw [HMl.out, HTl.out] at HF8 ⊢
        go_wp2_with fail
        go_roundw
        case rel => exact ⟨k + 1, _, _, _, _, M ++ [m], T ++ [(k : Int)], by omega, by go_num, rfl, rfl, HZ, hide (by simp [HMl.out]), hide (by simp [HTl.out]), HF8⟩
        case measure => simp [intOf]; omega
    · obtain rfl : k = n := by omega
      have hM := HM.out
      rw [List.take_of_length_le (by rw [HLn.out]; exact Nat.le_refl _)] at hM
      have HM2 := hide hM
      obtain ⟨c0, c1, c2, c3⟩ := four_of HF.out.f.c
      have hf0 := HF.out.f.o.frozen 0
      have hf1 := HF.out.f.o.frozen 1
      have hf2 := HF.out.f.o.frozen 2
      have hf3 := HF.out.f.o.frozen 3
      obtain ⟨p0, p1, p2, p3⟩ := four_of HF.out.f.o
      obtain ⟨b2, o2, e2', -, hat⟩ := (HF.out.f.ints HTl.out).at (by omega)
      cases e2'
      have t0 := hat o (by omega)
      rw [Nat.zero_add] at t0
      have hw0 : W.heap.size < V.heap.size := HF.out.f.c.lt
      have hw1 : W.heap.size + 1 < V.heap.size := HF.out.f.o.lt
      have i0' : (0 : Int) ≤ o := by omega
      have i1' : (o : Int) < k := by omega
      clear hat hM HM HOk HSu
      obtain ⟨z, hz⟩ : ∃ z, T.getD o 0 = z := ⟨_, rfl⟩
      rw [hz] at t0
      have HZ := hide hz
      clear hz
      go_wp2_with fail
      go_region
      have hq : (Value.slice (some ⟨gm, 0, none⟩) k cm).ownBlock ≠ some (W.heap.size + 1) := own_ne HF.out.f.m HF.out.f.o (by decide)
      have HO5 := hide (((((HF.out.f.o.set 0 (.int .i64 f)).set 1 (.int .i64 d)).set 2 (.slice (some ⟨gm, 0, none⟩) k cm)).set 3 (.int .i64 z)).below (below_drew _))
      have HM5 := hide ((ownsRow_setCell_other (ownsRow_setCell_other (ownsRow_setCell_other (ownsRow_setCell_other HF.out.f.m (a := ⟨W.heap.size + 1, 0, none⟩) hq (.int .i64 f)) (a := ⟨W.heap.size + 1, 1, none⟩) hq (.int .i64 d)) (a := ⟨W.heap.size + 1, 2, none⟩) hq (.slice (some ⟨gm, 0, none⟩) k cm)) (a := ⟨W.heap.size + 1, 3, none⟩) hq (.int .i64 z)).drew)
      have HB5 := hide (((((HF.out.f.lo.setCell (p := ⟨W.heap.size + 1, 0, none⟩) (by simp) (.int .i64 f)).setCell (p := ⟨W.heap.size + 1, 1, none⟩) (by simp) (.int .i64 d)).setCell (p := ⟨W.heap.size + 1, 2, none⟩) (by simp) (.slice (some ⟨gm, 0, none⟩) k cm)).setCell (p := ⟨W.heap.size + 1, 3, none⟩) (by simp) (.int .i64 z)).drew)
      obtain ⟨V5, hV5⟩ : ∃ V5, ((((V.setCell ⟨W.heap.size + 1, 0, none⟩ (.int .i64 f)).setCell ⟨W.heap.size + 1, 1, none⟩ (.int .i64 d)).setCell ⟨W.heap.size + 1, 2, none⟩ (.slice (some ⟨gm, 0, none⟩) k cm)).setCell ⟨W.heap.size + 1, 3, none⟩ (.int .i64 z)).drew = V5 := ⟨_, rfl⟩
      rw [hV5] at HO5 HM5 HB5 ⊢
      obtain ⟨x0, x1, x2, x3⟩ := four_of HO5.out
      rw [HMl.out] at HM5
      clear hV5 c0 c1 c2 c3 p0 p1 p2 p3 hf0 hf1 hf2 hf3 t0 hq
      go_wp2_with fail
      have HR : Hid ((shF L).1 = M ∧ shO L (o : Int) = z) := hide (by rw [shO, HM2.out]; exact ⟨rfl, HZ.out⟩)
      exact bodyPost_ret (v := .agg (cd f d (some ⟨gm, 0, none⟩) k cm z)) (by simp [results, Tryz.results107, go_sem, x0, x1, x2, x3]) rfl ⟨_, _, by rw [HR.out.2], by rw [HR.out.1]; exact HM5.out, HB5.out⟩

end Go.Proofs.Shr

/-
  share.Share: what it answers.
-/
namespace Go.Proofs.Shr
open Go.RowKit Go.IntWalk YtijbmdmeiancgaaGreat.Knd
open Cde (In i0 ia kd cd Ins at6 six_of four_of two_of has_new1 okI okT below_drew is6 i6)
open Vfy (vfE vfN vfC)
set_option linter.unusedVariables false

/-- What Share answers: a code of the call's own, and an error. -/
def foI (f d : Int) (L : List In) (out : Int) : List In := if vfE f d L out = 0 then sdL f d L out else []
def foU (f d : Int) (L : List In) (out : Int) : Int := if vfE f d L out = 0 then sdO f d L out else 0
def foK (f d : Int) (L : List In) (out x : Int) : Int := if vfE f d L out = 0 then x else 0
def FoP (w : World) (f d : Int) (L : List In) (out : Int) (e : Ending) (W' : World) : Prop :=
  ∃ a c, e = .returned (.tuple #[.agg (cd (foK f d L out f) (foK f d L out d) a (foI f d L out).length c (foU f d L out)), .int .i64 (vfE f d L out)]) ∧ W'.ownsRow w.heap.size 57 6 (.slice a (foI f d L out).length c) (foI f d L out).length (is6 (foI f d L out)) ∧ Below w.heap.size w W'
theorem FoP.no {w W' : World} {f d : Int} {L : List In} {out er : Int} (h : vfE f d L out = er) (h0 : er ≠ 0) (hb : Below w.heap.size w W') : FoP w f d L out (.returned (.tuple #[.agg cdz, .int .i64 er])) W' := by
  subst h
  refine ⟨none, 0, ?_, ?_, hb⟩
  · simp [foK, foI, foU, h0]
  · rw [foI, if_neg h0]; exact ⟨rfl, .inl ⟨rfl, rfl⟩⟩
theorem FoP.row {w W' : World} {f d : Int} {L I : List In} {out u : Int} {a : Option Addr} {n c : Nat} (h : vfE f d L out = 0) (hI : sdL f d L out = I) (hu : sdO f d L out = u) (hn : I.length = n) (hO : W'.ownsRow w.heap.size 57 6 (.slice a n c) n (is6 I)) (hb : Below w.heap.size w W') : FoP w f d L out (.returned (.tuple #[.agg (cd f d a n c u), .int .i64 0])) W' := by
  subst hn hI hu
  refine ⟨a, c, ?_, ?_, hb⟩
  · simp [foK, foI, foU, h]
  · rw [foI, if_pos h]; exact hO
/-- Share's boxes. -/
structure Fg (W V : World) (cv rv : Array Value) : Prop where
  c : HasC V W.heap.size 26 cv
  r : HasC V (W.heap.size + 1) 26 rv
  lo : Below W.heap.size W V
theorem Fg.below {W V V' : World} {cv rv : Array Value} (h : Fg W V cv rv) (hb : Below V.heap.size V V') : Fg W V' cv rv := ⟨h.c.below hb, h.r.below hb, bel h.lo hb⟩
theorem Fg.put {W V : World} {cv : Array Value} {p q r s : Value} (h : Fg W V cv #[p, q, r, s]) (x y z u : Value) : Fg W (s4 V (W.heap.size + 1) x y z u) cv #[x, y, z, u] := by
  refine ⟨?_, (((h.r.set 0 x).set 1 y).set 2 z).set 3 u, ?_⟩
  · exact (((h.c.other (p := ⟨W.heap.size + 1, 0, none⟩) (by simp) _).other (p := ⟨W.heap.size + 1, 1, none⟩) (by simp) _).other (p := ⟨W.heap.size + 1, 2, none⟩) (by simp) _).other (p := ⟨W.heap.size + 1, 3, none⟩) (by simp) _
  · exact (((h.lo.setCell (p := ⟨W.heap.size + 1, 0, none⟩) (by simp) _).setCell (p := ⟨W.heap.size + 1, 1, none⟩) (by simp) _).setCell (p := ⟨W.heap.size + 1, 2, none⟩) (by simp) _).setCell (p := ⟨W.heap.size + 1, 3, none⟩) (by simp) _
/-- What harmless makes of it, in one form. -/
theorem harm_one {f d out : Int} {a1 a2 : Option Addr} {n c1 c2 : Nat} {L : List In} {W : World} (hL : L.length = n) (hO : W.ownsRow 0 57 6 (.slice a1 n c1) n (is6 (shF L).1)) (hI : Ins W a2 n c2 L) (hn0 : 0 < n) (hn : n ≤ 1000) :
    Calls Tryz.prog 106 #[.agg (cd f d a1 n c1 (shO L out)), .agg (cd f d a2 n c2 out)] W fun e W' => ∃ a' c', e = .returned (.agg (cd f d a' n c' (sdO f d L out))) ∧ (∀ base, W.ownsRow base 57 6 (.slice a1 n c1) n (is6 (shF L).1) → base ≤ W.heap.size → W'.ownsRow base 57 6 (.slice a' n c') n (is6 (sdL f d L out))) ∧ Below W.heap.size W W' := by
  obtain ⟨a', c', e', hM, -⟩ := Ins.of_owns hO
  cases e'
  refine (gharm_any f d (shO L out) out hM hI hn0 hn).mono ?_
  rintro e W' (⟨h0, rfl, hb⟩ | ⟨h0, a', c', rfl, ho, hb⟩)
  · exact ⟨_, _, by rw [sdO, if_pos h0], fun base h _ => by rw [sdL, if_pos h0]; exact Cde.own_later h hb, hb⟩
  · exact ⟨_, _, by rw [sdO, if_neg h0], fun base _ h => by rw [sdL, if_neg h0]; exact Cde.own_mono ho h, hb⟩

set_option maxRecDepth 100000 in
set_option maxHeartbeats 8000000 in
theorem gshare_any (f d out : Int) {a : Option Addr} {n cap : Nat} {L : List In} {W : World} (hL : Ins W a n cap L) :
    Calls Tryz.prog 75 #[.agg (cd f d a n cap out)] W (FoP W f d L out) := by
  have b1 := bel1 W (.cells (cd f d a n cap out) 26)
  have b2 := bel b1 (bel1 _ (.cells cdz 26))
  have HF0 : Hid (Fg W ((W.alloc (.cells (cd f d a n cap out) 26)).alloc (.cells cdz 26)) (cd f d a n cap out) cdz) :=
    hide ⟨(HasC.new W 26 (cd f d a n cap out)).alloc (.cells cdz 26), has_new1 W (.cells (cd f d a n cap out) 26) 26 cdz, b2⟩
  have HV := hide (Vfy.yverify_any f d out (hL.later b2))
  have HLI := hide hL
  have HLn := hide hL.len
  clear b1 b2 hL
  go_enter Tryz.func75, Tryz.ntmps75
  go_wp2_with fail
  refine HV.out.mono ?_
  rintro e V1 ⟨ga, gc, rfl, hS, hb, -, -⟩
  obtain ⟨m, hm⟩ : ∃ m, vfN f d L out = m := ⟨_, rfl⟩
  obtain ⟨co, hco⟩ : ∃ co, vfC f d L out = co := ⟨_, rfl⟩
  obtain ⟨er, her⟩ : ∃ er, vfE f d L out = er := ⟨_, rfl⟩
  rw [hm, hco, her]
  have HEr := hide her
  have hb2 := bel1 V1 (.cells #[.slice ga m gc, .int .i64 co, .int .i64 0] 47)
  have HF1 := hide ((HF0.out.below hb).below hb2)
  obtain ⟨x0, x1, x2, x3⟩ := four_of (HF0.out.below hb).c
  obtain ⟨p0, p1, p2, p3⟩ := four_of (HF0.out.below hb).r
  have z0 := (HF0.out.below hb).c.lt
  have z1 := (HF0.out.below hb).r.lt
  clear hm hco her hb hb2 hS HV HF0
  by_cases h0 : er = 0
  · have hr : (er != 0) = false := by simpa using h0
    go_upto_region 4 with fail
    obtain ⟨V2, hV2⟩ : ∃ V2, V1.alloc (.cells #[.slice ga m gc, .int .i64 co, .int .i64 0] 47) = V2 := ⟨_, rfl⟩
    rw [hV2] at HF1 ⊢
    clear x0 x1 x2 x3 p0 p1 p2 p3 z0 z1 hV2
    obtain ⟨x0, x1, x2, x3⟩ := four_of HF1.out.c
    have h0' := HEr.out.trans h0
    obtain ⟨mc, -⟩ := Vfy.vf_parts h0'
    obtain ⟨-, m1, m2, o0, o1, -⟩ := Cde.mc_parts mc
    rw [HLn.out] at m1 m2 o1
    have HFo := hide (gshared_any f d out ((HLI.out.later HF1.out.lo).later (below_drew V2)) h0')
    have HHa := hide fun (V : World) (a1 : Option Addr) (c1 : Nat) (hO : V.ownsRow 0 57 6 (.slice a1 n c1) n (is6 (shF L).1)) (hI : Ins V a n cap L) => harm_one (f := f) (d := d) (out := out) HLn.out hO hI (by omega) (by omega)
    have HS := hide fun V3 (hb : Below V2.drew.heap.size V2.drew V3) => (HF1.out.below (bel (below_drew V2) hb))
    clear mc
    go_region_held3 (fun w' => w'.cell? ⟨W.heap.size, 0, none⟩ = some (.int .i64 f) ∧ w'.cell? ⟨W.heap.size, 1, none⟩ = some (.int .i64 d) ∧ w'.cell? ⟨W.heap.size, 2, none⟩ = some (.slice a n cap) ∧ w'.cell? ⟨W.heap.size, 3, none⟩ = some (.int .i64 out))
      (first | exact ⟨x0, x1, x2, x3⟩ | exact ⟨l0, l1, l2, l3⟩ | exact ⟨k0, k1, k2, k3⟩ | go_keep)
      ((first
        | (go_at_call 107; refine HFo.out.mono ?_; rintro e V3 ⟨a', c', rfl, hO, hb⟩; have HF3 := hide (HS.out V3 hb); obtain ⟨k0, k1, k2, k3⟩ := four_of HF3.out.c)
        | (go_at_call 106; refine (HHa.out _ _ _ (Cde.own_mono hO (Nat.zero_le _)) (HLI.out.later HF3.out.lo)).mono ?_; rintro e V4 ⟨a2', c2', rfl, hO4, hb4⟩; have HF4 := hide (HF3.out.below hb4); obtain ⟨l0, l1, l2, l3⟩ := four_of HF4.out.c; obtain ⟨p0, p1, p2, p3⟩ := four_of HF4.out.r; obtain ⟨r0, r1, r2, r3⟩ := four_fr HF4.out.r)))
    all_goals
      have HO4 := hide (hO4 W.heap.size (Cde.own_mono hO (show W.heap.size ≤ V2.drew.heap.size from HF1.out.lo.size)) HF3.out.lo.size)
      clear k0 k1 k2 k3 l0 l1 l2 l3 p0 p1 p2 p3 r0 r1 r2 r3 hO hb hO4 hb4 HFo HHa HS x0 x1 x2 x3 HF3 h0 hr
      have hq := own_ne HO4.out HF4.out.r (by decide)
      have hlen := (sd_means h0').2.1
      rw [HLn.out] at hlen
      generalize hu : sdO f d L out = u at *
      generalize hI : sdL f d L out = I at *
      have HO5 := hide (s4_own HO4.out hq (.int .i64 f) (.int .i64 d) (.slice a2' n c2') (.int .i64 u))
      have HF5 := hide (HF4.out.put (.int .i64 f) (.int .i64 d) (.slice a2' n c2') (.int .i64 u))
      obtain ⟨V5, hV5⟩ : ∃ V5, (((V4.setCell ⟨W.heap.size + 1, 0, none⟩ (.int .i64 f)).setCell ⟨W.heap.size + 1, 1, none⟩ (.int .i64 d)).setCell ⟨W.heap.size + 1, 2, none⟩ (.slice a2' n c2')).setCell ⟨W.heap.size + 1, 3, none⟩ (.int .i64 u) = V5 := ⟨_, rfl⟩
      unfold s4 at HO5 HF5
      rw [hV5] at HO5 HF5 ⊢
      clear hV5 hq HF4 HO4
      go_wp2_with fail
      obtain ⟨q0, q1, q2, q3⟩ := four_of HF5.out.r
      exact bodyPost_ret (v := .tuple #[.agg (cd f d a2' n c2' u), .int .i64 0]) (by simp [results, Tryz.results75, go_sem, q0, q1, q2, q3]) rfl (FoP.row h0' hI hu hlen HO5.out HF5.out.lo)
  · have hr : (er != 0) = true := by simpa using h0
    go_upto_region 3 with fail
    obtain ⟨V2, hV2⟩ : ∃ V2, V1.alloc (.cells #[.slice ga m gc, .int .i64 co, .int .i64 0] 47) = V2 := ⟨_, rfl⟩
    rw [hV2] at HF1 ⊢
    clear x0 x1 x2 x3 p0 p1 p2 p3 z0 z1 hV2
    obtain ⟨p0, p1, p2, p3⟩ := four_of HF1.out.r
    obtain ⟨r0, r1, r2, r3⟩ := four_fr HF1.out.r
    obtain ⟨V3, hV3⟩ : ∃ V3, (((V2.setCell ⟨W.heap.size + 1, 0, none⟩ (.int .i64 0)).setCell ⟨W.heap.size + 1, 1, none⟩ (.int .i64 0)).setCell ⟨W.heap.size + 1, 2, none⟩ (.slice none 0 0)).setCell ⟨W.heap.size + 1, 3, none⟩ (.int .i64 0) = V3 := ⟨_, rfl⟩
    have HF2 : Hid (Fg W V3 (cd f d a n cap out) cdz) := hide (by rw [← hV3]; exact HF1.out.put (.int .i64 0) (.int .i64 0) (.slice none 0 0) (.int .i64 0))
    go_wp2_with fail
    obtain ⟨q0, q1, q2, q3⟩ := four_of HF2.out.r
    exact bodyPost_ret (v := .tuple #[.agg cdz, .int .i64 er]) (by simp [results, Tryz.results75, go_sem, q0, q1, q2, q3]) rfl (FoP.no HEr.out h0 HF2.out.lo)

end Go.Proofs.Shr
