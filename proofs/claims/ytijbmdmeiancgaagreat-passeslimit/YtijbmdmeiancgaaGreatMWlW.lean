/-
  PassesLimit's walk.
-/
import Derived.Test.YtijbmdmeiancgaaGreatMWB
import Derived.Test.YtijbmdmeiancgaaGreatMWf
namespace Go.Proofs.Pss
open Go.RowKit Go.IntWalk YtijbmdmeiancgaaGreat.Knd
open Cde (In i0 ia kd cd Ins is6 four_of has_new1 below_drew or_t)
open Rdc (mixedF own_ne own_grow cdz s4 four_fr s4_own)
open Vfy (vfE vfN vfC)
set_option linter.unusedVariables false

/-- A drawn region that calls Run with a part of a list, by which of its operations are done. -/
structure Tq (V : World) (cv ov kv sv : Value) (kf kd' u er : Int) (m : Nat) (I : List In) (q : Nat → Bool) (y0 y1 y2 y3 y4 y5 y6 y7 y9 : Value) (w : World) : Prop where
  bel : Below V.heap.size V w
  ld : q 0 = true → y0 = cv
  ml : q 1 = true → y1 = ov
  sl : q 2 = true → y2 = sv
  ca : q 3 = true → ∃ a c, y3 = .tuple #[.agg (cd kf kd' a m c u), .int .i64 er] ∧ w.ownsRow V.heap.size 57 6 (.slice a m c) m (is6 I)
  mv : q 4 = true → q 3 = true ∧ y4 = y3
  e0 : q 5 = true → q 3 = true ∧ ∃ a c, y3 = .tuple #[.agg (cd kf kd' a m c u), .int .i64 er] ∧ y5 = .agg (cd kf kd' a m c u)
  e1 : q 6 = true → y6 = .int .i64 er
  al : q 7 = true → q 8 = false → ∃ g, y7 = .pointer (some ⟨g, 0, none⟩) ∧ HasC w g 26 cdz ∧ V.heap.size ≤ g
  st : q 8 = true → q 7 = true ∧ q 3 = true ∧ ∃ g a c, y3 = .tuple #[.agg (cd kf kd' a m c u), .int .i64 er] ∧ y7 = .pointer (some ⟨g, 0, none⟩) ∧ HasC w g 26 (cd kf kd' a m c u)
  sg : q 9 = true → y9 = .int .i64 er
/-- An append of one number to a list of one's own. -/
theorem int_list {V : World} {base : Nat} {v : Value} {D : List Int} {n : Nat} (hn : D.length = n) {ops : Array Oper} {rest : List Oper} {o : Oper} {a : Act} {Q : Exit → Act → World → Prop}
    (hgd : o.guard = none) (s x : Operand) (ho : o.op = .call { callee := .builtin .append, args := #[s, x], argTypes := #[27, 27] })
    (hs : a.eval s = v) (hen : V.ownsRow base 3 1 v n (i64s D)) (hbase : base ≤ V.heap.size) (b : Nat) (p : Int) (hx : a.eval x = .slice (some ⟨b, 0, none⟩) 1 1) (hc : HasC V b 3 #[.int .i64 p]) (h3 : n ≤ 2000)
    (h : ∀ g cap w', w'.ownsRow base 3 1 (.slice (some ⟨g, 0, none⟩) (n + 1) cap) (n + 1) (i64s (D ++ [p])) → V.grownBy w' v.ownBlock → wpList Tryz.prog ops Q rest (a.put o.dst (.slice (some ⟨g, 0, none⟩) (n + 1) cap)) w') :
    wpList Tryz.prog ops Q (o :: rest) a V := by
  obtain ⟨i0', hi0, hz0, hz1, hz2⟩ := YtijbmdmeiancgaaGreat.Spn.info_parts info3
  refine wpList_append_lies V hgd s x 27 ho base 3 i0' _ 1 8 Tryz.underlying27 hi0 hz0 hz1 hz2 rfl (by omega) v n (i64s D) hs hen ⟨b, 0, none⟩ 1 1 [.int .i64 p] hx rfl (Cde.news_one hc) (by simp [Value.oneCell']) (by omega) (by unfold maxLen; omega) (by omega) hbase V.heap.size rfl ?_
  intro g cap w' hown hgrow hat hlt
  refine h g cap w' ?_ hgrow
  simpa using hown
theorem ints_owned {V : World} {lo n c : Nat} {a : Option Addr} {D : List Int} (h : V.ownsRow lo 3 1 (.slice a n c) n (i64s D)) : Ints V a n c D := by
  obtain ⟨a', c', e1, hI, -⟩ := Ints.of_owns h
  cases e1
  exact hI
/-- The law's code, and its list of fours. -/
structure Lm (W V : World) (cv : Array Value) (v : Value) (n : Nat) (D : List Int) : Prop where
  c : HasC V W.heap.size 26 cv
  r : V.ownsRow W.heap.size 3 1 v n (i64s D)
  lo : Below W.heap.size W V
theorem Lm.below {W V V' : World} {cv : Array Value} {v : Value} {n : Nat} {D : List Int} (h : Lm W V cv v n D) (hb : Below V.heap.size V V') : Lm W V' cv v n D := ⟨h.c.below hb, Cde.own_later h.r hb, bel h.lo hb⟩
theorem Lm.grow {W V V' : World} {cv : Array Value} {v v' : Value} {n n' : Nat} {D D' : List Int} (h : Lm W V cv v n D) (hg : V.grownBy V' v.ownBlock) (ho : V'.ownsRow W.heap.size 3 1 v' n' (i64s D')) : Lm W V' cv v' n' D' :=
  ⟨own_grow h.r hg h.c (by decide), ho, h.lo.grown hg h.lo.size fun k hk => (Cde.owns_block h.r k hk).1⟩
def fours (k : Nat) : List Int := List.replicate k 4
theorem fours_succ (k : Nat) : fours (k + 1) = fours k ++ [4] := List.replicate_succ'
set_option maxRecDepth 100000 in
theorem cut16 {V : World} {a : Option Addr} {c : Nat} {D : List Int} (h : Ints V a 17 c D) (w' : World) : (Instr.slice 27 (.slice a 17 c) none (some (.int .i64 16)) none).run Tryz.prog w' = .ok (.slice a 16 c) w' := by
  have hc := h.le
  rw [run_slice_h w' 27 a 17 c (by kernel_rfl) .i64 16 (by omega) (by omega)]
  simp [sliced, go_sem]
/-- What Run answers of sixteen fours. -/
theorem run16 (f d : Int) (L : List In) (out : Int) : rnE f d L out (fours 16) = vfE f d L out ∧ ((vfE f d L out = 0 ∧ (rnI f d L out (fours 16)).length ≠ 0) ∨ (vfE f d L out ≠ 0 ∧ (rnI f d L out (fours 16)).length = 0)) := by
  have h1 : rnE f d L out (fours 16) = vfE f d L out := if_pos (by decide)
  refine ⟨h1, ?_⟩
  rw [rnI, h1]
  by_cases h : vfE f d L out = 0
  · refine .inl ⟨h, ?_⟩
    rw [if_pos h]
    obtain ⟨mc, -⟩ := Vfy.vf_parts (psF_keeps (f := f) (d := d) (fours 16) (L, out) h).tk
    have := (Cde.mc_parts mc).2.1
    omega
  · exact .inr ⟨h, by rw [if_neg h]; rfl⟩

set_option maxRecDepth 100000 in
set_option maxHeartbeats 32000000 in
theorem zlimit_walk (f d out odd : Int) {a oa : Option Addr} {n cap om oc : Nat} {L : List In} {P : List Int} {W : World} (hL : Ins W a n cap L) (hP : Ints W oa om oc P) :
    Calls Tryz.prog 6 #[.agg (cd f d a n cap out), .slice oa om oc, .int .i64 odd] W fun e w' => e = .returned (.bool true) ∧ Below W.heap.size W w' := by
  obtain ⟨i0', hi0, hz0, hz1, hz2⟩ := YtijbmdmeiancgaaGreat.Spn.info_parts info3
  have HIN := hide (And.intro hi0 (And.intro hz0 (And.intro hz1 hz2)))
  have HA := hide fun V => zawake_any V
  have HM0 : Hid (Lm W (W.alloc (.cells (cd f d a n cap out) 26)) (cd f d a n cap out) (.slice none 0 0) 0 (fours 0)) := hide ⟨HasC.new _ _ _, ⟨rfl, .inl ⟨rfl, rfl⟩⟩, bel1 W _⟩
  have HLI := hide hL
  have HPI := hide hP
  have HPn := hide hP.len
  have HNP : Hid (oa = none → om = 0 ∧ oc = 0) := hide fun h => by have h1 := hP.nil h; have h2 := hP.le; omega
  have HV := hide fun V (h : Ins V a n cap L) => Vfy.yverify_any f d out h
  have HR7 := hide fun V a1 c1 (h : Ins V a n cap L) (h1 : Ints V a1 17 c1 (fours 17)) => zrun_no f d out h h1 (er := 1) (by rw [rnE, show okP (fours 17) = false by decide]; rfl) (by decide)
  have HR8 := hide fun V a1 c1 (h : Ins V a n cap L) (h1 : Ints V a1 16 c1 (fours 16)) => zrun_any f d out h h1
  have HR14 := hide fun V a1 c1 (h : Ins V a n cap L) (h0 : ¬ (1 ≤ odd ∧ odd ≤ 4)) (h1 : Ints V a1 (om + 1) c1 (P ++ [odd])) => zrun_no f d out h h1 (er := 1) (by rw [rnE, okP_odd (p := odd) (by simp) h0]; rfl) (by decide)
  unfold Vfy.VfP at HV
  unfold RnP at HR8
  obtain ⟨e1, e2⟩ := run16 f d L out
  rw [e1] at HR8
  generalize rnI f d L out (fours 16) = I at *
  generalize rnU f d L out (fours 16) = u at *
  generalize rnK f d L out (fours 16) f = kf at *
  generalize rnK f d L out (fours 16) d = kd' at *
  generalize vfN f d L out = vm at *
  generalize vfC f d L out = vc at *
  generalize Vfy.vfS f d L out = vs at *
  generalize vfE f d L out = er at *
  obtain ⟨l, hl⟩ : ∃ l, I.length = l := ⟨_, rfl⟩
  rw [hl] at HR8 e2
  have HE2 := hide e2
  clear hL hP e1 e2 hl hi0 hz0 hz1 hz2
  go_enter Tryz.func6, Tryz.ntmps6
  go_wp2_with fail
  go_loopw [7, 8] (fun lv iv wr => ∃ (k : Nat) (la : Option Addr) (lc : Nat), k ≤ 17 ∧ iv = .int .i64 k ∧ lv = .slice la k lc ∧ Hid (Lm W wr (cd f d a n cap out) (.slice la k lc) k (fours k))) (fun _ iv _ => 17 - (intOf iv).toNat)
  case atStart => exact ⟨0, none, 0, by omega, rfl, rfl, HM0⟩
  case round =>
    obtain ⟨k, la, lc, hk, rfl, rfl, HM⟩ := hrel
    rename World => V1
    clear HM0
    by_cases hlt : k < 17
    · have j1 : (k : Int) < 17 := by omega
      have HM1 := hide (HM.out.below (bel1 V1 (.cells #[.int .i64 4] 3)))
      have HN1 := hide (HasC.new V1 3 #[.int .i64 4])
      clear HM
      go_wp2_with (at_builtin; refine int_list (D := fours k) (by simp [fours]) rfl _ _ rfl rfl HM1.out.r HM1.out.lo.size _ 4 rfl HN1.out (by omega) ?_; intro g2 cap' w2 hown hgr)
      have HM2 := hide (HM1.out.grow hgr hown)
      rw [← fours_succ] at HM2
      clear hown hgr HM1 HN1
      try go_wp2_with fail
      go_roundw
      case rel => exact ⟨k + 1, _, _, by omega, by go_num, rfl, HM2⟩
      case measure => simp [intOf]; omega
    · obtain rfl : k = 17 := by omega
      obtain ⟨x0, x1, x2, x3⟩ := four_of HM.out.c
      go_wp2_with fail
      refine (HV.out _ (HLI.out.later HM.out.lo)).mono ?_
      rintro e V2 ⟨ga, gc, rfl, hS, hb, -, -⟩
      have hb2 := bel1 V2 (.cells #[.slice ga vm gc, .int .i64 vc, .int .i64 0] 47)
      have HM2 := hide ((HM.out.below hb).below hb2)
      clear hb hb2 hS HM HV x0 x1 x2 x3
      go_upto_region 7 with fail
      obtain ⟨V3, hV3⟩ : ∃ V3, V2.alloc (.cells #[.slice ga vm gc, .int .i64 vc, .int .i64 0] 47) = V3 := ⟨_, rfl⟩
      rw [hV3] at HM2 ⊢
      clear hV3
      obtain ⟨x0, x1, x2, x3⟩ := four_of HM2.out.c
      go_wp2_with fail
      refine (HR7.out _ _ _ (HLI.out.later HM2.out.lo) (ints_owned HM2.out.r)).mono ?_
      rintro e V4 ⟨a1, c1, rfl, hb⟩
      have hb2 := bel1 V4 (.cells (cd 0 0 a1 0 c1 0) 26)
      have HM4 := hide ((HM2.out.below hb).below hb2)
      have HA4 := hide (HasC.new V4 26 (cd 0 0 a1 0 c1 0))
      clear hb hb2 HM2 HR7 x0 x1 x2 x3
      go_wp2_with fail
      generalize V4.heap.size = ba at *
      obtain ⟨V5, hV5⟩ : ∃ V5, V4.alloc (.cells (cd 0 0 a1 0 c1 0) 26) = V5 := ⟨_, rfl⟩
      rw [hV5] at HM4 HA4 ⊢
      clear hV5
      have HCb := hide HM4.out.c
      have HRw := hide fun (w : World) (h : Below V5.heap.size V5 w) => HR8.out w _ _ (HLI.out.later (bel HM4.out.lo h)) (ints_take ((ints_owned HM4.out.r).later h) (k := 16) (by omega))
      have HSl := hide fun w' => cut16 (ints_owned HM4.out.r) w'
      clear HR8
      refine wp_flagsB3 mixedF (ord_ofB (by kernel_rfl)) (fun a0 q A w => ∃ y0 y1 y2 y3 y4 y5 y6 y7 y9, A = ⟨(((((((((a0.tmps.setIfInBounds 37 y0).setIfInBounds 38 y1).setIfInBounds 39 y2).setIfInBounds 40 y3).setIfInBounds 36 y4).setIfInBounds 41 y5).setIfInBounds 42 y6).setIfInBounds 13 y7).setIfInBounds 14 y9), a0.defers⟩ ∧ Tq V5 (.agg (cd f d a n cap out)) (.slice la 17 lc) (.int .i64 0) (.slice la 16 lc) kf kd' u er l I q y0 y1 y2 y3 y4 y5 y6 y7 y9 w) ?_ ?_ ?_
      · simp only [List.setIfInBounds_toArray, List.set_cons_succ, List.set_cons_zero]
        refine ⟨_, _, _, _, _, _, _, _, _, rfl, below_drew V5, ?_, ?_, ?_, ?_, ?_, ?_, ?_, ?_, ?_, ?_⟩
        all_goals (intro h; cases h; done)
      · rintro q A w i op ⟨y0, y1, y2, y3, y4, y5, y6, y7, y9, rfl, C⟩ hdi ho haft Q' hk'
        simp only [List.setIfInBounds_toArray, List.set_cons_succ, List.set_cons_zero] at hk' ⊢
        have HK := hide hk'
        clear hk'
        have hi : i < 10 := (Array.getElem?_eq_some_iff.1 ho).1
        match i, hi with
        | 0, _ =>
          obtain rfl := (Option.some.inj ho)
          clear haft ho
          obtain ⟨q0, q1, q2, q3⟩ := four_of (HCb.out.below C.bel)
          have C := hide C
          go_wp2
          have C := C.out
          exact HK.out _ _ ⟨_, y1, y2, y3, y4, y5, y6, y7, y9, rfl, ⟨C.bel, (fun _ => rfl), C.ml, C.sl, C.ca, (fun h => ⟨or_t (C.mv h).1, (C.mv h).2⟩), (fun h => ⟨or_t (C.e0 h).1, (C.e0 h).2⟩), C.e1, C.al, (fun h => ⟨or_t (C.st h).1, or_t (C.st h).2.1, (C.st h).2.2⟩), C.sg⟩⟩
        | 1, _ =>
          obtain rfl := (Option.some.inj ho)
          clear haft ho
          have C := hide C
          go_wp2
          have C := C.out
          exact HK.out _ _ ⟨y0, _, y2, y3, y4, y5, y6, y7, y9, rfl, ⟨C.bel, C.ld, (fun _ => rfl), C.sl, C.ca, (fun h => ⟨or_t (C.mv h).1, (C.mv h).2⟩), (fun h => ⟨or_t (C.e0 h).1, (C.e0 h).2⟩), C.e1, C.al, (fun h => ⟨or_t (C.st h).1, or_t (C.st h).2.1, (C.st h).2.2⟩), C.sg⟩⟩
        | 2, _ =>
          obtain rfl := (Option.some.inj ho)
          have gml : q 1 = true := haft ⟨1, .data⟩ (by simp) rfl
          clear haft ho
          have eml := C.ml gml
          subst eml
          have hsl := HSl.out
          have C := hide C
          go_wp2
          have C := C.out
          exact HK.out _ _ ⟨y0, _, _, y3, y4, y5, y6, y7, y9, rfl, ⟨C.bel, C.ld, C.ml, (fun _ => rfl), C.ca, (fun h => ⟨or_t (C.mv h).1, (C.mv h).2⟩), (fun h => ⟨or_t (C.e0 h).1, (C.e0 h).2⟩), C.e1, C.al, (fun h => ⟨or_t (C.st h).1, or_t (C.st h).2.1, (C.st h).2.2⟩), C.sg⟩⟩
        | 3, _ =>
          obtain rfl := (Option.some.inj ho)
          have gld : q 0 = true := haft ⟨0, .data⟩ (by simp) rfl
          have gsl : q 2 = true := haft ⟨2, .data⟩ (by simp) rfl
          clear haft ho
          have eld := C.ld gld
          have esl := C.sl gsl
          subst eld esl
          have HLw := hide (HRw.out w C.bel)
          have C := hide C
          go_wp2_with fail
          refine HLw.out.mono ?_
          rintro e w' ⟨al, cl, rfl, hO, hb⟩
          have HOw := hide hO
          have HBw := hide hb
          clear hO hb
          go_wp2_with fail
          have C := C.out
          have hb := HBw.out
          have hO := HOw.out
          exact HK.out _ _ ⟨_, y1, _, _, y4, y5, y6, y7, y9, rfl, ⟨(bel C.bel hb), C.ld, C.ml, C.sl, (fun _ => ⟨al, cl, rfl, Cde.own_mono hO C.bel.size⟩), (fun h => by have h2 := (C.mv h).1; rw [hdi] at h2; cases h2), (fun h => by have h2 := (C.e0 h).1; rw [hdi] at h2; cases h2), C.e1, (fun h h2 => by obtain ⟨g, e, hc, hg⟩ := C.al h h2; exact ⟨g, e, hc.below hb, hg⟩), (fun h => by have h2 := (C.st h).2.1; rw [hdi] at h2; cases h2), C.sg⟩⟩
        | 4, _ =>
          obtain rfl := (Option.some.inj ho)
          have gca : q 3 = true := haft ⟨3, .data⟩ (by simp) rfl
          clear haft ho
          obtain ⟨az, cz, e4, hOz⟩ := C.ca gca
          subst e4
          have C := hide C
          go_wp2
          have C := C.out
          exact HK.out _ _ ⟨y0, y1, y2, _, _, y5, y6, y7, y9, rfl, ⟨C.bel, C.ld, C.ml, C.sl, C.ca, (fun _ => ⟨or_t gca, rfl⟩), (fun h => ⟨or_t (C.e0 h).1, (C.e0 h).2⟩), C.e1, C.al, (fun h => ⟨or_t (C.st h).1, or_t (C.st h).2.1, (C.st h).2.2⟩), C.sg⟩⟩
        | 5, _ =>
          obtain rfl := (Option.some.inj ho)
          have gmv : q 4 = true := haft ⟨4, .data⟩ (by simp) rfl
          clear haft ho
          obtain ⟨gca, e5⟩ := C.mv gmv
          obtain ⟨az, cz, e4, hOz⟩ := C.ca gca
          subst e4
          subst e5
          have C := hide C
          go_wp2
          have C := C.out
          exact HK.out _ _ ⟨y0, y1, y2, _, _, _, y6, y7, y9, rfl, ⟨C.bel, C.ld, C.ml, C.sl, C.ca, (fun h => ⟨or_t (C.mv h).1, (C.mv h).2⟩), (fun _ => ⟨or_t gca, az, cz, rfl, rfl⟩), C.e1, C.al, (fun h => ⟨or_t (C.st h).1, or_t (C.st h).2.1, (C.st h).2.2⟩), C.sg⟩⟩
        | 6, _ =>
          obtain rfl := (Option.some.inj ho)
          have gmv : q 4 = true := haft ⟨4, .data⟩ (by simp) rfl
          clear haft ho
          obtain ⟨gca, e5⟩ := C.mv gmv
          obtain ⟨az, cz, e4, hOz⟩ := C.ca gca
          subst e4
          subst e5
          have C := hide C
          go_wp2
          have C := C.out
          exact HK.out _ _ ⟨y0, y1, y2, _, _, y5, _, y7, y9, rfl, ⟨C.bel, C.ld, C.ml, C.sl, C.ca, (fun h => ⟨or_t (C.mv h).1, (C.mv h).2⟩), (fun h => ⟨or_t (C.e0 h).1, (C.e0 h).2⟩), (fun _ => rfl), C.al, (fun h => ⟨or_t (C.st h).1, or_t (C.st h).2.1, (C.st h).2.2⟩), C.sg⟩⟩
        | 7, _ =>
          obtain rfl := (Option.some.inj ho)
          clear haft ho
          have C := hide C
          go_wp2
          have C := C.out
          have hb : Below V5.heap.size V5 (w.alloc (.cells cdz 26)) := C.bel.alloc C.bel.size _
          exact HK.out _ _ ⟨y0, y1, y2, y3, y4, y5, y6, _, y9, rfl, ⟨hb, C.ld, C.ml, C.sl, (fun h => by obtain ⟨a, c, e, hO⟩ := C.ca h; exact ⟨a, c, e, hO.alloc _⟩), (fun h => ⟨or_t (C.mv h).1, (C.mv h).2⟩), (fun h => ⟨or_t (C.e0 h).1, (C.e0 h).2⟩), C.e1, (fun _ _ => ⟨_, rfl, HasC.new w 26 cdz, C.bel.size⟩), (fun h => by have h2 := (C.st h).1; rw [hdi] at h2; cases h2), C.sg⟩⟩
        | 8, _ =>
          obtain rfl := (Option.some.inj ho)
          have gal : q 7 = true := haft ⟨7, .data⟩ (by simp) rfl
          have ge0 : q 5 = true := haft ⟨5, .data⟩ (by simp) rfl
          clear haft ho
          obtain ⟨gca, az, cz, e4, e6⟩ := C.e0 ge0
          obtain ⟨a5z, c5z, e5, hOz⟩ := C.ca gca
          obtain ⟨g, e8, hx, hg⟩ := C.al gal hdi
          subst e4
          cases e5
          subst e6 e8
          obtain ⟨q0, q1, q2, q3⟩ := four_of hx
          obtain ⟨s0, s1, s2, s3⟩ := four_fr hx
          have HX := hide hx
          clear hx
          have C := hide C
          go_wp2
          have C := C.out
          have hO := s4_own hOz (own_ne hOz HX.out (by decide)) (.int .i64 kf) (.int .i64 kd') (.slice az l cz) (.int .i64 u)
          have h4 := (((HX.out.set 0 (.int .i64 kf)).set 1 (.int .i64 kd')).set 2 (.slice az l cz)).set 3 (.int .i64 u)
          have hb := (((C.bel.setCell (p := ⟨g, 0, none⟩) (by simpa using hg) (.int .i64 kf)).setCell (p := ⟨g, 1, none⟩) (by simpa using hg) (.int .i64 kd')).setCell (p := ⟨g, 2, none⟩) (by simpa using hg) (.slice az l cz)).setCell (p := ⟨g, 3, none⟩) (by simpa using hg) (.int .i64 u)
          exact HK.out _ _ ⟨y0, y1, y2, _, y4, _, y6, _, y9, rfl, ⟨hb, C.ld, C.ml, C.sl, (fun _ => ⟨az, cz, rfl, hO⟩), (fun h => ⟨or_t (C.mv h).1, (C.mv h).2⟩), (fun _ => ⟨or_t gca, az, cz, rfl, rfl⟩), C.e1, (fun _ h => by cases h), (fun _ => ⟨or_t gal, or_t gca, g, az, cz, rfl, rfl, h4⟩), C.sg⟩⟩
        | 9, _ =>
          obtain rfl := (Option.some.inj ho)
          have ge1 : q 6 = true := haft ⟨6, .data⟩ (by simp) rfl
          clear haft ho
          have e7 := C.e1 ge1
          subst e7
          have C := hide C
          go_wp2
          have C := C.out
          exact HK.out _ _ ⟨y0, y1, y2, y3, y4, y5, _, y7, _, rfl, ⟨C.bel, C.ld, C.ml, C.sl, C.ca, (fun h => ⟨or_t (C.mv h).1, (C.mv h).2⟩), (fun h => ⟨or_t (C.e0 h).1, (C.e0 h).2⟩), C.e1, C.al, (fun h => ⟨or_t (C.st h).1, or_t (C.st h).2.1, (C.st h).2.2⟩), (fun _ => rfl)⟩⟩
      rintro q A V6 ⟨y0, y1, y2, y3, y4, y5, y6, y7, y9, rfl, C⟩ hall
      simp only [List.setIfInBounds_toArray, List.set_cons_succ, List.set_cons_zero]
      have D : ∀ i, i < 10 → q i = true := hall
      obtain ⟨-, -, g6, a6, c6, e4, e8, hB6⟩ := C.st (D 8 (by omega))
      obtain ⟨ax, cx, ex, hO6⟩ := C.ca (D 3 (by omega))
      obtain ⟨-, ay, cy, ey, e6⟩ := C.e0 (D 5 (by omega))
      obtain ⟨-, e5⟩ := C.mv (D 4 (by omega))
      have hld := C.ld (D 0 (by omega))
      have hml := C.ml (D 1 (by omega))
      have hsl := C.sl (D 2 (by omega))
      have he1 := C.e1 (D 6 (by omega))
      have hsg := C.sg (D 9 (by omega))
      have hb6 := C.bel
      subst e4
      cases ex
      cases ey
      subst e5 e6 e8 hld hml hsl he1 hsg
      clear D hall C
      have HM6 := hide (HM4.out.below hb6)
      have HA6 := hide (HA4.out.below hb6)
      have HB6 := hide hB6
      clear hb6 hB6 hO6 HM4 HA4 HCb HRw HSl
      go_wp2_with fail
      refine (HA.out _).mono ?_
      rintro e V7 ⟨rfl, hb⟩
      have HM7 := hide (HM6.out.below hb)
      have HA7 := hide (HA6.out.below hb)
      have HB7 := hide (HB6.out.below hb)
      clear hb HM6 HA6 HB6 HA
      obtain ⟨x0, x1, x2, x3⟩ := four_of HA7.out
      obtain ⟨y0, y1, y2, y3⟩ := four_of HB7.out
      have hq1 : (er != er) = false := by simp
      have hq2 : ∃ b1, (er != 0) = b1 ∧ ((l : Int) == 0) = b1 ∧ (l == 0) = b1 := by
        rcases HE2.out with ⟨h1, h2⟩ | ⟨h1, h2⟩
        · exact ⟨false, by simpa using h1, by simpa using h2, by simpa using h2⟩
        · exact ⟨true, by simpa using h1, by simpa using h2, by simpa using h2⟩
      obtain ⟨b1, hb1, hb2, hb3⟩ := hq2
      clear HE2
      by_cases hodd : (1 ≤ odd ∧ odd ≤ 4) ∨ 20 < om
      · rcases (show (1 ≤ odd ∧ odd ≤ 4) ∨ (1 ≤ odd ∧ ¬ odd ≤ 4 ∧ (20 : Int) < om) ∨ (¬ 1 ≤ odd ∧ (20 : Int) < om) by omega) with ⟨h1, h2⟩ | ⟨h1, h2, h3⟩ | ⟨h1, h3⟩
        all_goals
          cases b1
          all_goals
            go_wp2_with fail
            go_ret
            exact ⟨rfl, HM7.out.lo⟩
      · have h20 : om ≤ 20 := by omega
        have hno : ¬ (1 ≤ odd ∧ odd ≤ 4) := fun h => hodd (.inl h)
        have HE : Hid (HasC (V7.alloc (.cells #[] 3)) V7.heap.size 3 #[]) := hide (HasC.new _ _ _)
        have HM8 := hide (HM7.out.below (bel1 V7 (.cells #[] 3)))
        have j3 : ¬ (20 : Int) < (om : Int) := by omega
        have HNo := hide hno
        have hO : (V7.alloc (.cells #[] 3)).ownsRow W.heap.size 3 1 (.slice (some ⟨V7.heap.size, 0, none⟩) 0 0) 0 [] := ⟨rfl, .inr ⟨V7.heap.size, 0, #[], rfl, HM7.out.lo.size, HE.out, Nat.le_refl _, Nat.zero_le _, rfl, rfl⟩⟩
        have HOw := hide hO
        have HLo := hide HM7.out.lo
        have hsplit : (¬ 1 ≤ odd) ∨ (1 ≤ odd ∧ ¬ odd ≤ 4) := by omega
        clear hodd hno hO HE HM7
        rcases hsplit with h1 | ⟨h1, h2⟩
        all_goals
          cases b1
          all_goals
            go_upto_region 13 with fail
            clear x0 x1 x2 x3 y0 y1 y2 y3 HA7 HB7
            go_wp2_with (first
              | (at_builtin; refine Cde.append_row _ rfl _ _ 27 rfl W.heap.size 3 _ _ 1 8 Tryz.underlying27 HIN.out.1 HIN.out.2.1 HIN.out.2.2.1 HIN.out.2.2.2 rfl (by omega) _ rfl HOw.out _ om oc (i64s P) rfl (by simp [HPn.out]) HNP.out (HPI.out.later HM8.out.lo).news (ints_oneCell _ _) (by unfold maxLen; omega) (by omega) HM8.out.lo.size ?_; intro v' w8 hown8 hgr8; have HM9 : Hid (Lm W w8 (cd f d a n cap out) v' om P) := hide ⟨own_grow HOw.out hgr8 HM8.out.c (by decide), hown8, HM8.out.lo.grown hgr8 HM8.out.lo.size fun k hk => (Cde.owns_block HOw.out k hk).1⟩; clear hown8 hgr8)
              | (at_builtin; refine int_list HPn.out rfl _ _ rfl rfl (HM9.out.below (bel1 w8 (.cells #[.int .i64 odd] 3))).r (HM9.out.below (bel1 w8 (.cells #[.int .i64 odd] 3))).lo.size _ odd rfl (HasC.new w8 3 #[.int .i64 odd]) (by omega) ?_; intro g9 cap9 w9 hown9 hgr9; have HM10 := hide ((HM9.out.below (bel1 w8 (.cells #[.int .i64 odd] 3))).grow hgr9 hown9); clear hown9 hgr9; obtain ⟨z0, z1, z2, z3⟩ := four_of HM10.out.c))
            refine (HR14.out _ _ _ (HLI.out.later HM10.out.lo) HNo.out (ints_owned HM10.out.r)).mono ?_
            rintro e V11 ⟨a2, c2, rfl, hb⟩
            have HB11 := hide (bel (bel HM10.out.lo hb) (bel1 V11 (.cells (cd 0 0 a2 0 c2 0) 26)))
            clear hb z0 z1 z2 z3 HM8 HM9 HM10
            go_wp2_with fail
            go_ret
            exact ⟨rfl, HB11.out⟩

end Go.Proofs.Pss
