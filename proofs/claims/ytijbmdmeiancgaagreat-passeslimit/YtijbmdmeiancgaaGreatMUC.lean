/-
  reduce.reduced: the new code of one that is taken.
-/
import Derived.Test.YtijbmdmeiancgaaGreatMU6
import Derived.Test.YtijbmdmeiancgaaGreatMFB
import Derived.Test.YtijbmdmeiancgaaGreatMYR
namespace Go.Proofs.Rdc
open Go.RowKit Go.IntWalk YtijbmdmeiancgaaGreat.Knd
open Cde (In i0 ia kd cd Ins at6 six_of four_of two_of has_new1 okI okT below_drew is6 i6 zA take_snoc)
open Vfy (vfE vfN vfC vfS Sps w32)
open Fld (In1 rg gv ar ag2 thI)
set_option linter.unusedVariables false

theorem rdW_six (L : List In) (S : Sps) (T : List Int) (n : In) (m : Int) : (rdW L S T n m).length ≤ 6 := by
  unfold rdW
  cases hq : qkL L S T n m with
  | none => simp
  | some W =>
    show W.length ≤ 6
    unfold qkL at hq
    repeat' split at hq
    all_goals first
      | (cases hq; simp; done)
      | (have := dvL_len hq; omega)
      | (obtain ⟨Q, hQ, rfl⟩ := Option.map_eq_some_iff.1 hq; have := dvL_len hQ; simp; omega)
      | cases hq
theorem rd_few (L : List In) (S : Sps) : ∀ k, k ≤ L.length → (rdF L S (L.take k)).1.length ≤ 6 * k
  | 0, _ => by simp [rdF]
  | k + 1, hk => by
    have ih := rd_few L S k (by omega)
    have := rdW_six L S (rdF L S (L.take k)).2 (L.getD k i0) (rdF L S (L.take k)).1.length
    rw [rdF_succ S (by omega), rdS]
    show ((rdF L S (L.take k)).1 ++ _).length ≤ _
    rw [List.length_append]
    omega
theorem has_low {V V' : World} {b q : Nat} {t : TypeId} {cs : Array Value} (h : HasC V q t cs) (hq : q < b) (hb : Below b V V') : HasC V' q t cs := (hb.block q hq).trans h
theorem rdS_yes {L : List In} {S : Sps} {M Q : List In} {T : List Int} {q : In} {z : Int} (h : qkL L S T q M.length = some Q) (hz : ((M.length + Q.length : Nat) : Int) - 1 = z) : rdS L S (M, T) q = (M ++ Q, T ++ [z]) := by
  subst hz
  have e : rdW L S T q M.length = Q := by rw [rdW, h]; rfl
  unfold rdS
  rw [e]
theorem rdS_no {L : List In} {S : Sps} {M : List In} {T : List Int} {q : In} {z : Int} (h : qkL L S T q M.length = none) (hz : (M.length : Int) = z) : rdS L S (M, T) q = (M ++ [thI q T], T ++ [z]) := by
  subst hz
  have e : rdW L S T q M.length = [thI q T] := by rw [rdW, h]; rfl
  unfold rdS
  rw [e]
  simp
/-- What a code that is taken has, for the writer. -/
theorem rd_facts {f d : Int} {L : List In} {out : Int} (h : vfE f d L out = 0) : 1 ≤ L.length ∧ L.length ≤ 200 ∧ 0 ≤ out ∧ out < L.length ∧ (vfS f d L out).length = L.length ∧ okT L L.length = true ∧ (∀ r : Int, In1 r L.length → Wh ((vfS f d L out).getD r.toNat (0, 0)).1 ((vfS f d L out).getD r.toNat (0, 0)).2) ∧ (∀ r, In1 r L.length → (rg L r).op = 1 → w32 (rg L r).k) := by
  obtain ⟨m, -, ⟨S, hS, hSl, hs⟩, -⟩ := Vfy.vf_parts h
  obtain ⟨hm, m1, m2, o0, o1, hok⟩ := Cde.mc_parts m
  refine ⟨m1, m2, o0, o1, by rw [hs]; exact hSl, hok, fun r hr => ?_, fun r hr ho => ?_⟩
  · rw [hs]
    have hl : r.toNat < S.length := by rw [hSl]; exact hr.2
    have := Vfy.sgF_whole hm hok L.length (Nat.le_refl _) S (by rw [List.take_length]; exact hS) (S.getD r.toNat (0, 0)) (by rw [List.getD_eq_getElem?_getD, List.getElem?_eq_getElem hl]; exact List.getElem_mem _)
    exact YtijbmdmeiancgaaGreat.Spn.whB_iff.1 this
  · obtain ⟨V, -, hVl, hOd⟩ := od_of h (Fld.wd0_fits hm)
    rw [← hOd.rv.num hr ho]
    exact hOd.w hr

set_option maxRecDepth 100000 in
set_option maxHeartbeats 8000000 in
theorem ureduced_any (f d out : Int) {a : Option Addr} {n cap : Nat} {sa : Option Addr} {sn sc : Nat} {L : List In} {W : World} (hL : Ins W a n cap L) (h : vfE f d L out = 0) (hS : YtijbmdmeiancgaaGreat.Spn.Spans W sa sn sc (vfS f d L out)) :
    Calls Tryz.prog 109 #[.agg (cd f d a n cap out), .slice sa sn sc] W fun e W' => ∃ a' m c', (rdN f d L out).length = m ∧ e = .returned (.agg (cd f d a' m c' (rdO f d L out))) ∧ W'.ownsRow W.heap.size 57 6 (.slice a' m c') m (is6 (rdN f d L out)) ∧ Below W.heap.size W W' := by
  obtain ⟨m1, m2, o0, o1, hsl, hok, hSw, hLw⟩ := rd_facts h
  have hsn := hS.len
  unfold rdN rdO
  obtain ⟨S, hSe⟩ : ∃ S, vfS f d L out = S := ⟨_, rfl⟩
  rw [hSe] at hsl hSw hS hsn ⊢
  rw [hL.len] at m1 m2 o1 hsl hok hSw hLw
  have hsn' : n = sn := by omega
  subst hsn'
  obtain ⟨o, rfl⟩ : ∃ o : Nat, out = o := ⟨out.toNat, by omega⟩
  have HLI := hide hL
  have HLn := hide hL.len
  have HSI := hide hS
  have HOk := hide hok
  have HSu := hide fun k (hk : k < n) => rdF_succ S (L := L) (k := k) (by rw [hL.len]; exact hk)
  have HFew := hide fun k (hk : k ≤ n) => rd_few L S k (by rw [hL.len]; exact hk)
  have HSw := hide hSw
  have HLw := hide hLw
  have HB0 : Hid (HasC (((W.alloc (.cells (cd f d a n cap (o : Int)) 26)).alloc (.cells cdz 26)).alloc (.cells #[.slice a n cap, .slice sa n sc, .slice none 0 0, .slice none 0 0] 145)) W.heap.size 26 (cd f d a n cap (o : Int)) ∧ HasC (((W.alloc (.cells (cd f d a n cap (o : Int)) 26)).alloc (.cells cdz 26)).alloc (.cells #[.slice a n cap, .slice sa n sc, .slice none 0 0, .slice none 0 0] 145)) (W.heap.size + 1) 26 cdz ∧
      Wt W (((W.alloc (.cells (cd f d a n cap (o : Int)) 26)).alloc (.cells cdz 26)).alloc (.cells #[.slice a n cap, .slice sa n sc, .slice none 0 0, .slice none 0 0] 145)) (W.heap.size + 1 + 1) (.slice a n cap) (.slice sa n sc) (.slice none 0 0) (.slice none 0 0) [] []) := by
    have b1 := bel1 W (.cells (cd f d a n cap (o : Int)) 26)
    have b2 := bel b1 (bel1 _ (.cells cdz 26))
    have b3 := bel b2 (bel1 _ (.cells #[.slice a n cap, .slice sa n sc, .slice none 0 0, .slice none 0 0] 145))
    have h3 := HasC.new ((W.alloc (.cells (cd f d a n cap (o : Int)) 26)).alloc (.cells cdz 26)) 145 #[.slice a n cap, .slice sa n sc, .slice none 0 0, .slice none 0 0]
    rw [World.size_alloc, World.size_alloc] at h3
    exact hide ⟨((HasC.new W 26 (cd f d a n cap (o : Int))).alloc _).alloc _, (has_new1 W (.cells (cd f d a n cap (o : Int)) 26) 26 cdz).alloc _, h3, ⟨rfl, .inl ⟨rfl, rfl⟩⟩, ⟨rfl, .inl ⟨rfl, rfl⟩⟩, b3, by omega⟩
  clear hL h hS hok hSw hLw hsn hSe
  go_enter Tryz.func109, Tryz.ntmps109
  go_wp2_with fail
  obtain ⟨b, hbe⟩ : ∃ b, W.heap.size + 1 + 1 = b := ⟨_, rfl⟩
  rw [hbe] at HB0 ⊢
  have HBe := hide hbe
  clear hbe
  go_loopw [17] (fun i wr => ∃ (k : Nat) (M : List In) (T : List Int) (mv tv : Value), k ≤ n ∧ i = .int .i64 k ∧ Hid (rdF L S (L.take k) = (M, T)) ∧ Hid (T.length = k) ∧ Hid (HasC wr W.heap.size 26 (cd f d a n cap (o : Int)) ∧ HasC wr (W.heap.size + 1) 26 cdz ∧ Wt W wr b (.slice a n cap) (.slice sa n sc) mv tv M T)) (fun i _ => n - (intOf i).toNat)
  case atStart => exact ⟨0, [], [], _, _, Nat.zero_le _, rfl, hide rfl, hide rfl, HB0⟩
  case round =>
    obtain ⟨k, M, T, mv, tv, hk, rfl, HM, HTl, HF⟩ := hrel
    rename World => V
    clear HB0
    by_cases hlt : k < n
    · obtain ⟨gl, off, rfl, -, hat⟩ := (HLI.out.later HF.out.2.2.lo).at (by omega)
      obtain ⟨e0, e1, e2, e3, e4, e5⟩ := hat k hlt
      clear hat
      have hi0 : (0 : Int) ≤ k := by omega
      have hi1 : (k : Int) < n := by omega
      have hSu := HSu.out k hlt
      have hfew := HFew.out k (by omega)
      rw [HM.out] at hSu hfew
      have hfew2 : M.length ≤ 6 * k := hfew
      have hOk := Cde.okT_at HOk.out hlt
      generalize L.getD k i0 = q at *
      have HC1 := hide (HasC.new V 57 (ia q))
      have HF1 := hide (show HasC (V.alloc (.cells (ia q) 57)) W.heap.size 26 _ ∧ HasC (V.alloc (.cells (ia q) 57)) (W.heap.size + 1) 26 cdz ∧ Wt W (V.alloc (.cells (ia q) 57)) b _ _ _ _ _ T from ⟨HF.out.1.below (bel1 V (.cells (ia q) 57)), HF.out.2.1.below (bel1 V (.cells (ia q) 57)), HF.out.2.2.below (bel1 V (.cells (ia q) 57))⟩)
      have hch := ucheap_any q HF1.out.2.2 HLI.out HSI.out (by rw [HTl.out]; omega) (by rw [HTl.out]; omega) (by omega) (by rw [HTl.out]; exact hOk) (fun r hr => HSw.out r ⟨hr.1, by have := hr.2; have := HTl.out; omega⟩) (fun r hr ho => HLw.out r ⟨hr.1, by have := hr.2; have := HTl.out; omega⟩ ho)
      obtain ⟨O, hO⟩ : ∃ O, qkL L S T q M.length = O := ⟨_, rfl⟩
      rw [hO] at hch
      have HCh := hide hch
      have HY := hide fun Q z (h : O = some Q) hz => hSu.trans (rdS_yes (z := z) (hO.trans h) hz)
      have HN := hide fun z (h : O = none) hz => hSu.trans (rdS_no (z := z) (hO.trans h) hz)
      have HMk : Hid (M.length ≤ 1200) := hide (by omega)
      clear hO hSu hOk hch hfew hfew2
      go_wp2_with fail
      refine HCh.out.mono ?_
      clear HCh e0 e1 e2 e3 e4 e5
      rintro e V2 (⟨Q, h1, rfl, ⟨mv2, h3⟩, h4⟩ | ⟨h1, rfl, h3⟩)
      · obtain ⟨z, hz⟩ : ∃ z : Int, ((M.length + Q.length : Nat) : Int) - 1 = z := ⟨_, rfl⟩
        rw [hz]
        have HZ := hide (HY.out Q z h1 hz)
        obtain ⟨ta, tc, rfl, -⟩ := h3.ints
        have HF2 := hide (show HasC V2 W.heap.size 26 _ ∧ HasC V2 (W.heap.size + 1) 26 cdz ∧ Wt W V2 b _ _ _ _ _ T from ⟨has_low HF1.out.1 (by have := HBe.out; omega) h4, has_low HF1.out.2.1 (by have := HBe.out; omega) h4, h3⟩)
        clear h1 h3 h4 hz HY HN
        have HF2b := hide (show HasC (V2.alloc (.cells #[.int .i64 z] 3)) W.heap.size 26 _ ∧ HasC (V2.alloc (.cells #[.int .i64 z] 3)) (W.heap.size + 1) 26 cdz ∧ Wt W (V2.alloc (.cells #[.int .i64 z] 3)) b _ _ _ _ _ T from ⟨HF2.out.1.below (bel1 V2 (.cells #[.int .i64 z] 3)), HF2.out.2.1.below (bel1 V2 (.cells #[.int .i64 z] 3)), HF2.out.2.2.below (bel1 V2 (.cells #[.int .i64 z] 3))⟩)
        have HN9 := hide (HasC.new V2 3 #[.int .i64 z])
        have tcl := HF2.out.2.2.w.cell 3 rfl
        have hbl := HF2.out.2.2.w.lt
        go_wp2_with (at_builtin; refine int_list rfl _ _ rfl rfl HF2b.out.2.2.t HF2b.out.2.2.le _ z rfl HN9.out (by rw [HTl.out]; omega) ?_; intro g cap' w3 hown hgr; obtain ⟨hW4, hB4⟩ := HF2b.out.2.2.growT hgr hown; have hc3 := own_grow HF2b.out.2.2.t hgr HF2b.out.2.2.w (by decide); have v3 := hc3.cell 3 rfl; have yv := hc3.frozen 3; have hl3 := hc3.lt)
        have HF9 := hide (show HasC _ W.heap.size 26 _ ∧ HasC _ (W.heap.size + 1) 26 cdz ∧ Wt W _ b _ _ _ _ _ _ from ⟨has_low HF2b.out.1 (by have := HBe.out; omega) hB4, has_low HF2b.out.2.1 (by have := HBe.out; omega) hB4, hW4⟩)
        clear hown hgr hW4 hB4 hc3
        go_wp2_with fail
        go_roundw
        case rel => exact ⟨k + 1, M ++ Q, T ++ [z], _, _, by omega, by go_num, HZ, hide (by simp [HTl.out]), HF9⟩
        case measure => simp [intOf]; omega
      · obtain ⟨ta, tc, rfl, -⟩ := HF.out.2.2.ints
        have HF2 := hide (show HasC V2 W.heap.size 26 _ ∧ HasC V2 (W.heap.size + 1) 26 cdz ∧ Wt W V2 b _ _ _ _ _ T from ⟨HF1.out.1.below h3, HF1.out.2.1.below h3, HF1.out.2.2.below h3⟩)
        have HC2 := hide (HC1.out.below h3)
        obtain ⟨ta', tc', e', hI⟩ := HF2.out.2.2.ints
        cases e'
        have HTh := hide (Fld.fthrough_any q hI)
        obtain ⟨z, hz⟩ : ∃ z : Int, (M.length : Int) = z := ⟨_, rfl⟩
        have HZ := hide (HN.out z h1 hz)
        have HMl := hide hz
        obtain ⟨e0, e1, e2, e3, e4, e5⟩ := six_of HC2.out
        have tcl0 := HF2.out.2.2.w.cell 3 rfl
        clear h1 h3 hz hI HY HN
        generalize thI q T = u at *
        go_wp2_with fail
        refine HTh.out.mono ?_
        rintro e V3 ⟨rfl, hb⟩
        have HF3 := hide (show HasC V3 W.heap.size 26 _ ∧ HasC V3 (W.heap.size + 1) 26 cdz ∧ Wt W V3 b _ _ _ _ _ T from ⟨HF2.out.1.below hb, HF2.out.2.1.below hb, HF2.out.2.2.below hb⟩)
        have HU := hide (uput_z u HF3.out.2.2 HMl.out (by have := HMk.out; omega))
        clear hb HTh e0 e1 e2 e3 e4 e5 tcl0
        go_wp2_with fail
        refine HU.out.mono ?_
        rintro e V4 ⟨rfl, ⟨mv4, h3⟩, h4, -⟩
        have HF4 := hide (show HasC V4 W.heap.size 26 _ ∧ HasC V4 (W.heap.size + 1) 26 cdz ∧ Wt W V4 b _ _ _ _ _ T from ⟨has_low HF3.out.1 (by have := HBe.out; omega) h4, has_low HF3.out.2.1 (by have := HBe.out; omega) h4, h3⟩)
        clear h3 h4 HU
        have HF4b := hide (show HasC (V4.alloc (.cells #[.int .i64 z] 3)) W.heap.size 26 _ ∧ HasC (V4.alloc (.cells #[.int .i64 z] 3)) (W.heap.size + 1) 26 cdz ∧ Wt W (V4.alloc (.cells #[.int .i64 z] 3)) b _ _ _ _ _ T from ⟨HF4.out.1.below (bel1 V4 (.cells #[.int .i64 z] 3)), HF4.out.2.1.below (bel1 V4 (.cells #[.int .i64 z] 3)), HF4.out.2.2.below (bel1 V4 (.cells #[.int .i64 z] 3))⟩)
        have HN9 := hide (HasC.new V4 3 #[.int .i64 z])
        have tcl := HF4.out.2.2.w.cell 3 rfl
        have hbl := HF4.out.2.2.w.lt
        go_wp2_with (at_builtin; refine int_list rfl _ _ rfl rfl HF4b.out.2.2.t HF4b.out.2.2.le _ z rfl HN9.out (by rw [HTl.out]; omega) ?_; intro g cap' w3 hown hgr; obtain ⟨hW4, hB4⟩ := HF4b.out.2.2.growT hgr hown; have hc3 := own_grow HF4b.out.2.2.t hgr HF4b.out.2.2.w (by decide); have v3 := hc3.cell 3 rfl; have yv := hc3.frozen 3; have hl3 := hc3.lt)
        have HF9 := hide (show HasC _ W.heap.size 26 _ ∧ HasC _ (W.heap.size + 1) 26 cdz ∧ Wt W _ b _ _ _ _ _ _ from ⟨has_low HF4b.out.1 (by have := HBe.out; omega) hB4, has_low HF4b.out.2.1 (by have := HBe.out; omega) hB4, hW4⟩)
        clear hown hgr hW4 hB4 hc3
        go_wp2_with fail
        go_roundw
        case rel => exact ⟨k + 1, M ++ [u], T ++ [z], _, _, by omega, by go_num, HZ, hide (by simp [HTl.out]), HF9⟩
        case measure => simp [intOf]; omega
    · obtain rfl : k = n := by omega
      have hM := HM.out
      rw [List.take_of_length_le (by rw [HLn.out]; exact Nat.le_refl _)] at hM
      obtain ⟨ma, mc, rfl, -, -⟩ := Ins.of_owns HF.out.2.2.m
      obtain ⟨j, gt, ct, ej, hj, htl, rfl, ct0⟩ := HF.out.2.2.reg (r := (o : Int)) ⟨by omega, by have := HTl.out; omega⟩
      obtain rfl : o = j := by omega
      obtain ⟨z, hz⟩ : ∃ z, gv T (o : Int) = z := ⟨_, rfl⟩
      rw [hz] at ct0
      have HR : Hid ((rdF L S L).1 = M ∧ (rdF L S L).2.getD ((o : Int)).toNat 0 = z) := hide (by rw [hM]; exact ⟨rfl, hz⟩)
      obtain ⟨c0, c1, c2, c3⟩ := four_of HF.out.1
      obtain ⟨p0, p1, p2, p3⟩ := four_of HF.out.2.1
      have hf0 := HF.out.2.1.frozen 0
      have hf1 := HF.out.2.1.frozen 1
      have hf2 := HF.out.2.1.frozen 2
      have hf3 := HF.out.2.1.frozen 3
      have t2 := HF.out.2.2.w.cell 2 rfl
      have t3 := HF.out.2.2.w.cell 3 rfl
      have hw0 : W.heap.size < V.heap.size := HF.out.1.lt
      have hw1 : W.heap.size + 1 < V.heap.size := HF.out.2.1.lt
      have hw2 : b < V.heap.size := HF.out.2.2.w.lt
      have i0' : (0 : Int) ≤ o := by omega
      obtain ⟨tl, htl'⟩ : ∃ tl, T.length = tl := ⟨_, rfl⟩
      rw [htl'] at t3 hj htl
      obtain ⟨ml, hml⟩ : ∃ ml, M.length = ml := ⟨_, rfl⟩
      rw [hml] at t2 HF
      have HMl := hide hml
      have i1' : (o : Int) < tl := by omega
      clear hz hM HM HOk HSu ej htl' hml HFew HSw HLw HSI
      go_wp2_with fail
      go_region
      have hq : (Value.slice ma ml mc).ownBlock ≠ some (W.heap.size + 1) := own_ne HF.out.2.2.m HF.out.2.1 (by decide)
      have HO5 := hide (((((HF.out.2.1.set 0 (.int .i64 f)).set 1 (.int .i64 d)).set 2 (.slice ma ml mc)).set 3 (.int .i64 z)).below (below_drew _))
      have HM5 := hide ((ownsRow_setCell_other (ownsRow_setCell_other (ownsRow_setCell_other (ownsRow_setCell_other (Cde.own_mono HF.out.2.2.m HF.out.2.2.hb) (a := ⟨W.heap.size + 1, 0, none⟩) hq (.int .i64 f)) (a := ⟨W.heap.size + 1, 1, none⟩) hq (.int .i64 d)) (a := ⟨W.heap.size + 1, 2, none⟩) hq (.slice ma ml mc)) (a := ⟨W.heap.size + 1, 3, none⟩) hq (.int .i64 z)).drew)
      have HB5 := hide (((((HF.out.2.2.lo.setCell (p := ⟨W.heap.size + 1, 0, none⟩) (by simp) (.int .i64 f)).setCell (p := ⟨W.heap.size + 1, 1, none⟩) (by simp) (.int .i64 d)).setCell (p := ⟨W.heap.size + 1, 2, none⟩) (by simp) (.slice ma ml mc)).setCell (p := ⟨W.heap.size + 1, 3, none⟩) (by simp) (.int .i64 z)).drew)
      obtain ⟨V5, hV5⟩ : ∃ V5, ((((V.setCell ⟨W.heap.size + 1, 0, none⟩ (.int .i64 f)).setCell ⟨W.heap.size + 1, 1, none⟩ (.int .i64 d)).setCell ⟨W.heap.size + 1, 2, none⟩ (.slice ma ml mc)).setCell ⟨W.heap.size + 1, 3, none⟩ (.int .i64 z)).drew = V5 := ⟨_, rfl⟩
      rw [hV5] at HO5 HM5 HB5 ⊢
      obtain ⟨x0, x1, x2, x3⟩ := four_of HO5.out
      rw [HMl.out] at HM5
      clear hV5 c0 c1 c2 c3 p0 p1 p2 p3 hf0 hf1 hf2 hf3 t2 t3 ct0 hq
      go_wp2_with fail
      exact bodyPost_ret (v := .agg (cd f d ma ml mc z)) (by simp [results, Tryz.results109, go_sem, x0, x1, x2, x3]) rfl ⟨ma, ml, mc, by rw [HR.out.1]; exact HMl.out, by rw [HR.out.2], by rw [HR.out.1]; exact HM5.out, HB5.out⟩

end Go.Proofs.Rdc

/-
  reduce.Reduce: what it answers.
-/
namespace Go.Proofs.Rdc
open Go.RowKit Go.IntWalk YtijbmdmeiancgaaGreat.Knd
open Cde (In i0 ia kd cd Ins at6 six_of four_of two_of has_new1 okI okT below_drew is6 i6)
open Vfy (vfE vfN vfC vfS)
set_option linter.unusedVariables false

/-- What Reduce answers: a code of the call's own, and an error. -/
def foI (f d : Int) (L : List In) (out : Int) : List In := if vfE f d L out = 0 then rxL f d L out else []
def foU (f d : Int) (L : List In) (out : Int) : Int := if vfE f d L out = 0 then rxO f d L out else 0
def foK (f d : Int) (L : List In) (out x : Int) : Int := if vfE f d L out = 0 then x else 0
def FoP (w : World) (f d : Int) (L : List In) (out : Int) (e : Ending) (W' : World) : Prop :=
  ∃ a c, e = .returned (.tuple #[.agg (cd (foK f d L out f) (foK f d L out d) a (foI f d L out).length c (foU f d L out)), .int .i64 (vfE f d L out)]) ∧ W'.ownsRow w.heap.size 57 6 (.slice a (foI f d L out).length c) (foI f d L out).length (is6 (foI f d L out)) ∧ Below w.heap.size w W'
theorem FoP.no {w W' : World} {f d : Int} {L : List In} {out er : Int} (h : vfE f d L out = er) (h0 : er ≠ 0) (hb : Below w.heap.size w W') : FoP w f d L out (.returned (.tuple #[.agg cdz, .int .i64 er])) W' := by
  subst h
  refine ⟨none, 0, ?_, ?_, hb⟩
  · simp [foK, foI, foU, h0]
  · rw [foI, if_neg h0]; exact ⟨rfl, .inl ⟨rfl, rfl⟩⟩
theorem FoP.row {w W' : World} {f d : Int} {L I : List In} {out u : Int} {a : Option Addr} {n c : Nat} (h : vfE f d L out = 0) (hI : rxL f d L out = I) (hu : rxO f d L out = u) (hn : I.length = n) (hO : W'.ownsRow w.heap.size 57 6 (.slice a n c) n (is6 I)) (hb : Below w.heap.size w W') : FoP w f d L out (.returned (.tuple #[.agg (cd f d a n c u), .int .i64 0])) W' := by
  subst hn hI hu
  refine ⟨a, c, ?_, ?_, hb⟩
  · simp [foK, foI, foU, h]
  · rw [foI, if_pos h]; exact hO
/-- Reduce's boxes. -/
structure Fg (W V : World) (cv rv : Array Value) (gr : Nat) (pv : Array Value) : Prop where
  c : HasC V W.heap.size 26 cv
  r : HasC V (W.heap.size + 1) 26 rv
  p : HasC V gr 47 pv
  lo : Below W.heap.size W V
theorem Fg.below {W V V' : World} {cv rv pv : Array Value} {gr : Nat} (h : Fg W V cv rv gr pv) (hb : Below V.heap.size V V') : Fg W V' cv rv gr pv := ⟨h.c.below hb, h.r.below hb, h.p.below hb, bel h.lo hb⟩
theorem put4 {W V : World} {p q r s : Value} (h : HasC V (W.heap.size + 1) 26 #[p, q, r, s]) (hl : Below W.heap.size W V) (x y z u : Value) : HasC (s4 V (W.heap.size + 1) x y z u) (W.heap.size + 1) 26 #[x, y, z, u] ∧ Below W.heap.size W (s4 V (W.heap.size + 1) x y z u) :=
  ⟨(((h.set 0 x).set 1 y).set 2 z).set 3 u, (((hl.setCell (p := ⟨W.heap.size + 1, 0, none⟩) (by simp) _).setCell (p := ⟨W.heap.size + 1, 1, none⟩) (by simp) _).setCell (p := ⟨W.heap.size + 1, 2, none⟩) (by simp) _).setCell (p := ⟨W.heap.size + 1, 3, none⟩) (by simp) _⟩
/-- What harmless makes of it, in one form. -/
theorem harm_one {f d out : Int} {a1 a2 : Option Addr} {m n c1 c2 : Nat} {L : List In} {W : World} (hL : L.length = n) (hm : (rdN f d L out).length = m) (hO : W.ownsRow 0 57 6 (.slice a1 m c1) m (is6 (rdN f d L out))) (hI : Ins W a2 n c2 L) (hn0 : 0 < n) (hn : n ≤ 1000) :
    Calls Tryz.prog 108 #[.agg (cd f d a1 m c1 (rdO f d L out)), .agg (cd f d a2 n c2 out)] W fun e W' => ∃ a' l c', (rxL f d L out).length = l ∧ e = .returned (.agg (cd f d a' l c' (rxO f d L out))) ∧ (∀ base, W.ownsRow base 57 6 (.slice a1 m c1) m (is6 (rdN f d L out)) → base ≤ W.heap.size → W'.ownsRow base 57 6 (.slice a' l c') l (is6 (rxL f d L out))) ∧ Below W.heap.size W W' := by
  obtain ⟨a', c', e', hM, -⟩ := Ins.of_owns hO
  cases e'
  refine (uharm_any f d (rdO f d L out) out hM hI hn0 hn).mono ?_
  rintro e W' (⟨h0, rfl, hb⟩ | ⟨h0, a', c', rfl, ho, hb⟩)
  · exact ⟨_, m, _, by rw [rxL, if_pos h0]; exact hm, by rw [rxO, if_pos h0], fun base h _ => by rw [rxL, if_pos h0]; exact Cde.own_later h hb, hb⟩
  · exact ⟨_, n, _, by rw [rxL, if_neg h0]; exact hL, by rw [rxO, if_neg h0], fun base _ h => by rw [rxL, if_neg h0]; exact Cde.own_mono ho h, hb⟩

set_option maxRecDepth 100000 in
set_option maxHeartbeats 8000000 in
theorem ureduce_any (f d out : Int) {a : Option Addr} {n cap : Nat} {L : List In} {W : World} (hL : Ins W a n cap L) :
    Calls Tryz.prog 76 #[.agg (cd f d a n cap out)] W (FoP W f d L out) := by
  have b1 := bel1 W (.cells (cd f d a n cap out) 26)
  have b2 := bel b1 (bel1 _ (.cells cdz 26))
  have HC0 := hide ((HasC.new W 26 (cd f d a n cap out)).alloc (.cells cdz 26))
  have HR0 := hide (has_new1 W (.cells (cd f d a n cap out) 26) 26 cdz)
  have HB0 := hide b2
  have HV := hide (Vfy.yverify_any f d out (hL.later b2))
  have HLI := hide hL
  have HLn := hide hL.len
  clear b1 b2 hL
  go_enter Tryz.func76, Tryz.ntmps76
  go_wp2_with fail
  refine HV.out.mono ?_
  rintro e V1 ⟨ga, gc, rfl, hS, hb, -, -⟩
  obtain ⟨m, hm⟩ : ∃ m, vfN f d L out = m := ⟨_, rfl⟩
  obtain ⟨co, hco⟩ : ∃ co, vfC f d L out = co := ⟨_, rfl⟩
  obtain ⟨er, her⟩ : ∃ er, vfE f d L out = er := ⟨_, rfl⟩
  rw [hm] at hS
  rw [hm, hco, her]
  have HEr := hide her
  have hb2 := bel1 V1 (.cells #[.slice ga m gc, .int .i64 co, .int .i64 0] 47)
  have HF1 : Hid (Fg W (V1.alloc (.cells #[.slice ga m gc, .int .i64 co, .int .i64 0] 47)) (cd f d a n cap out) cdz V1.heap.size #[.slice ga m gc, .int .i64 co, .int .i64 0]) := hide ⟨(HC0.out.below hb).below hb2, (HR0.out.below hb).below hb2, HasC.new V1 47 _, bel (bel HB0.out hb) hb2⟩
  have HSp := hide (hS.later hb2)
  obtain ⟨x0, x1, x2, x3⟩ := four_of (HC0.out.below hb)
  obtain ⟨p0, p1, p2, p3⟩ := four_of (HR0.out.below hb)
  have z0 := (HC0.out.below hb).lt
  have z1 := (HR0.out.below hb).lt
  clear hm hco her hb hb2 hS HV HC0 HR0 HB0
  by_cases h0 : er = 0
  · have hr : (er != 0) = false := by simpa using h0
    go_upto_region 4 with fail
    obtain ⟨gr, hgr⟩ : ∃ gr, V1.heap.size = gr := ⟨_, rfl⟩
    obtain ⟨V2, hV2⟩ : ∃ V2, V1.alloc (.cells #[.slice ga m gc, .int .i64 co, .int .i64 0] 47) = V2 := ⟨_, rfl⟩
    rw [hV2] at HF1 HSp ⊢
    rw [hgr] at HF1 ⊢
    clear x0 x1 x2 x3 p0 p1 p2 p3 z0 z1 hV2 hgr
    obtain ⟨x0, x1, x2, x3⟩ := four_of HF1.out.c
    have y0 := HF1.out.p.cell 0 rfl
    have h0' := HEr.out.trans h0
    obtain ⟨mc, -⟩ := Vfy.vf_parts h0'
    obtain ⟨-, m1, m2, o0, o1, -⟩ := Cde.mc_parts mc
    rw [HLn.out] at m1 m2 o1
    have HFo := hide (ureduced_any f d out ((HLI.out.later HF1.out.lo).later (below_drew V2)) h0' (HSp.out.later (below_drew V2)))
    have HHa := hide fun (V : World) (a1 : Option Addr) (l c1 : Nat) (hl : (rdN f d L out).length = l) (hO : V.ownsRow 0 57 6 (.slice a1 l c1) l (is6 (rdN f d L out))) (hI : Ins V a n cap L) => harm_one (f := f) (d := d) (out := out) HLn.out hl hO hI (by omega) (by omega)
    have HS := hide fun V3 (hb : Below V2.drew.heap.size V2.drew V3) => (HF1.out.below (bel (below_drew V2) hb))
    clear mc
    go_region_held3 (fun w' => w'.cell? ⟨W.heap.size, 0, none⟩ = some (.int .i64 f) ∧ w'.cell? ⟨W.heap.size, 1, none⟩ = some (.int .i64 d) ∧ w'.cell? ⟨W.heap.size, 2, none⟩ = some (.slice a n cap) ∧ w'.cell? ⟨W.heap.size, 3, none⟩ = some (.int .i64 out) ∧ w'.cell? ⟨gr, 0, none⟩ = some (.slice ga m gc))
      (first | exact ⟨x0, x1, x2, x3, y0⟩ | exact ⟨l0, l1, l2, l3, l4⟩ | exact ⟨k0, k1, k2, k3, k4⟩ | exact ⟨u0, u1, u2, u3, u4⟩ | go_keep)
      ((first
        | (go_at_call 109; refine HFo.out.mono ?_; rintro e V3 ⟨a', l', c', hl', rfl, hO, hb⟩; have HF3 := hide (HS.out V3 hb); obtain ⟨k0, k1, k2, k3⟩ := four_of HF3.out.c; have k4 := HF3.out.p.cell 0 rfl)
        | (go_at_call 108; refine (HHa.out _ _ _ _ hl' (Cde.own_mono hO (Nat.zero_le _)) (HLI.out.later HF3.out.lo)).mono ?_; rintro e V4 ⟨a2', l2', c2', hl2, rfl, hO4, hb4⟩; have HF4 := hide (HF3.out.below hb4); obtain ⟨l0, l1, l2, l3⟩ := four_of HF4.out.c; have l4 := HF4.out.p.cell 0 rfl; obtain ⟨p0, p1, p2, p3⟩ := four_of HF4.out.r; obtain ⟨r0, r1, r2, r3⟩ := four_fr HF4.out.r; have hgr : gr ≠ W.heap.size + 1 := has_ne HF4.out.p HF4.out.r (by decide); have u4 := HasC.cell (HasC.other (HasC.other (HasC.other (HasC.other HF4.out.p (p := ⟨W.heap.size + 1, 0, none⟩) hgr (.int .i64 f)) (p := ⟨W.heap.size + 1, 1, none⟩) hgr (.int .i64 d)) (p := ⟨W.heap.size + 1, 2, none⟩) hgr (.slice a2' l2' c2')) (p := ⟨W.heap.size + 1, 3, none⟩) hgr (.int .i64 (rxO f d L out))) 0 rfl; obtain ⟨u0, u1, u2, u3⟩ := four_of (HasC.other (HasC.other (HasC.other (HasC.other HF4.out.c (p := ⟨W.heap.size + 1, 0, none⟩) (show W.heap.size ≠ W.heap.size + 1 by omega) (.int .i64 f)) (p := ⟨W.heap.size + 1, 1, none⟩) (show W.heap.size ≠ W.heap.size + 1 by omega) (.int .i64 d)) (p := ⟨W.heap.size + 1, 2, none⟩) (show W.heap.size ≠ W.heap.size + 1 by omega) (.slice a2' l2' c2')) (p := ⟨W.heap.size + 1, 3, none⟩) (show W.heap.size ≠ W.heap.size + 1 by omega) (.int .i64 (rxO f d L out))))))
    all_goals
      have HO4 := hide (hO4 W.heap.size (Cde.own_mono hO (show W.heap.size ≤ V2.drew.heap.size from HF1.out.lo.size)) HF3.out.lo.size)
      clear u0 u1 u2 u3 u4 k0 k1 k2 k3 k4 l0 l1 l2 l3 l4 p0 p1 p2 p3 r0 r1 r2 r3 hO hb hO4 hb4 HFo HHa HS x0 x1 x2 x3 y0 HF3 h0 hr
      have hq := own_ne HO4.out HF4.out.r (by decide)
      generalize hu : rxO f d L out = u at *
      generalize hI : rxL f d L out = I at *
      have HO5 := hide (s4_own HO4.out hq (.int .i64 f) (.int .i64 d) (.slice a2' l2' c2') (.int .i64 u))
      have HF5 := hide (put4 HF4.out.r HF4.out.lo (.int .i64 f) (.int .i64 d) (.slice a2' l2' c2') (.int .i64 u))
      obtain ⟨V5, hV5⟩ : ∃ V5, (((V4.setCell ⟨W.heap.size + 1, 0, none⟩ (.int .i64 f)).setCell ⟨W.heap.size + 1, 1, none⟩ (.int .i64 d)).setCell ⟨W.heap.size + 1, 2, none⟩ (.slice a2' l2' c2')).setCell ⟨W.heap.size + 1, 3, none⟩ (.int .i64 u) = V5 := ⟨_, rfl⟩
      unfold s4 at HO5 HF5
      rw [hV5] at HO5 HF5 ⊢
      clear hV5 hq HF4 HO4
      go_wp2_with fail
      obtain ⟨q0, q1, q2, q3⟩ := four_of HF5.out.1
      exact bodyPost_ret (v := .tuple #[.agg (cd f d a2' l2' c2' u), .int .i64 0]) (by simp [results, Tryz.results76, go_sem, q0, q1, q2, q3]) rfl (FoP.row h0' hI hu hl2 HO5.out HF5.out.2)
  · have hr : (er != 0) = true := by simpa using h0
    go_upto_region 3 with fail
    obtain ⟨V2, hV2⟩ : ∃ V2, V1.alloc (.cells #[.slice ga m gc, .int .i64 co, .int .i64 0] 47) = V2 := ⟨_, rfl⟩
    rw [hV2] at HF1 ⊢
    clear x0 x1 x2 x3 p0 p1 p2 p3 z0 z1 hV2
    obtain ⟨p0, p1, p2, p3⟩ := four_of HF1.out.r
    obtain ⟨r0, r1, r2, r3⟩ := four_fr HF1.out.r
    obtain ⟨V3, hV3⟩ : ∃ V3, (((V2.setCell ⟨W.heap.size + 1, 0, none⟩ (.int .i64 0)).setCell ⟨W.heap.size + 1, 1, none⟩ (.int .i64 0)).setCell ⟨W.heap.size + 1, 2, none⟩ (.slice none 0 0)).setCell ⟨W.heap.size + 1, 3, none⟩ (.int .i64 0) = V3 := ⟨_, rfl⟩
    have HF2 := hide (put4 HF1.out.r HF1.out.lo (.int .i64 0) (.int .i64 0) (.slice none 0 0) (.int .i64 0))
    unfold s4 at HF2
    rw [hV3] at HF2
    go_wp2_with fail
    obtain ⟨q0, q1, q2, q3⟩ := four_of HF2.out.1
    exact bodyPost_ret (v := .tuple #[.agg cdz, .int .i64 er]) (by simp [results, Tryz.results76, go_sem, q0, q1, q2, q3]) rfl (FoP.no HEr.out h0 HF2.out.2)

end Go.Proofs.Rdc
