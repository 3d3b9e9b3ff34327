/-
  PassesCut's walk.
-/
import Derived.Test.YtijbmdmeiancgaaGreatMWB
import Derived.Test.YtijbmdmeiancgaaGreatMWf
import Derived.Test.YtijbmdmeiancgaaGreatMCdE
namespace Go.Proofs.Pss
open Go.RowKit Go.IntWalk YtijbmdmeiancgaaGreat.Knd
open Cde (In i0 ia kd cd Ins is6 four_of has_new1 below_drew or_t)
open Rdc (mixedF own_ne cdz s4 four_fr s4_own)
open Vfy (vfE)
set_option linter.unusedVariables false

/-- A drawn region that calls Run with a part of a list, by which of its operations are done. -/
structure Sq (V : World) (cv ov kv sv : Value) (kf kd' u er : Int) (m : Nat) (I : List In) (q : Nat → Bool) (y0 y1 y2 y3 y4 y5 y6 y7 y8 y10 : Value) (w : World) : Prop where
  bel : Below V.heap.size V w
  ld : q 0 = true → y0 = cv
  ml : q 1 = true → y1 = ov
  mq : q 2 = true → y2 = kv
  sl : q 3 = true → y3 = sv
  ca : q 4 = true → ∃ a c, y4 = .tuple #[.agg (cd kf kd' a m c u), .int .i64 er] ∧ w.ownsRow V.heap.size 57 6 (.slice a m c) m (is6 I)
  mv : q 5 = true → q 4 = true ∧ y5 = y4
  e0 : q 6 = true → q 4 = true ∧ ∃ a c, y4 = .tuple #[.agg (cd kf kd' a m c u), .int .i64 er] ∧ y6 = .agg (cd kf kd' a m c u)
  e1 : q 7 = true → y7 = .int .i64 er
  al : q 8 = true → q 9 = false → ∃ g, y8 = .pointer (some ⟨g, 0, none⟩) ∧ HasC w g 26 cdz ∧ V.heap.size ≤ g
  st : q 9 = true → q 8 = true ∧ q 4 = true ∧ ∃ g a c, y4 = .tuple #[.agg (cd kf kd' a m c u), .int .i64 er] ∧ y8 = .pointer (some ⟨g, 0, none⟩) ∧ HasC w g 26 (cd kf kd' a m c u)
  sg : q 10 = true → y10 = .int .i64 er
/-- The law's boxes. -/
structure Cq (W V : World) (cv av : Array Value) (ba : Nat) : Prop where
  c : HasC V W.heap.size 26 cv
  a : HasC V ba 26 av
  lo : Below W.heap.size W V
theorem Cq.below {W V V' : World} {cv av : Array Value} {ba : Nat} (h : Cq W V cv av ba) (hb : Below V.heap.size V V') : Cq W V' cv av ba := ⟨h.c.below hb, h.a.below hb, bel h.lo hb⟩
theorem ins_owned {V : World} {lo n c : Nat} {a : Option Addr} {I : List In} (h : V.ownsRow lo 57 6 (.slice a n c) n (is6 I)) : Ins V a n c I := by
  obtain ⟨a', c', e1, hI, -⟩ := Ins.of_owns h
  cases e1
  exact hI
set_option maxRecDepth 100000 in
/-- A list's first part, and the rest. -/
theorem cut_to {w : World} {a : Option Addr} {n c : Nat} {P : List Int} (h : Ints w a n c P) {k : Nat} (hk : k ≤ n) (w' : World) : (Instr.slice 27 (.slice a n c) none (some (.int .i64 (k : Int))) none).run Tryz.prog w' = .ok (.slice a k c) w' := by
  have hc := h.le
  rw [run_slice_h w' 27 a n c (by kernel_rfl) .i64 (k : Int) (by omega) (by omega)]
  simp [sliced, go_sem]
def fromA (a : Option Addr) (c k : Nat) : Option Addr := if c = k then a else a.map (·.add k)
set_option maxRecDepth 100000 in
theorem cut_from {w : World} {a : Option Addr} {n c : Nat} {P : List Int} (h : Ints w a n c P) {k : Nat} (hk : k ≤ n) (w' : World) : (Instr.slice 27 (.slice a n c) (some (.int .i64 (k : Int))) none none).run Tryz.prog w' = .ok (.slice (fromA a c k) (n - k) (c - k)) w' := by
  rw [run_slice_l w' 27 a n c (by kernel_rfl) .i64 (k : Int) (by omega) (by omega)]
  simp [sliced, go_sem, fromA]
theorem ints_from {w : World} {a : Option Addr} {n c : Nat} {P : List Int} (h : Ints w a n c P) {k : Nat} (hk : k ≤ n) : Ints w (fromA a c k) (n - k) (c - k) (P.drop k) := by
  have h1 := h.le
  have h2 := h.max
  have h3 := h.len
  refine ⟨by rw [List.length_drop]; omega, by omega, by omega, fun e => ?_, ?_⟩
  · unfold fromA at e
    split at e
    · omega
    · have := h.nil (by simpa using e); omega
  · by_cases h0 : n - k = 0
    · exact .inl h0
    · obtain ⟨b, off, rfl, -, hc⟩ := h.at (by omega)
      refine .inr ⟨b, off + k, ?_, fun i hi => ?_⟩
      · rw [fromA, if_neg (by omega)]; simp [Addr.add]
      · have := hc (k + i) (by omega)
        rw [show off + k + i = off + (k + i) by omega, this]
        simp [List.getD]
theorem okP_sub {P Q : List Int} (h : okP P = true) (hl : Q.length ≤ P.length) (hs : ∀ x ∈ Q, x ∈ P) : okP Q = true :=
  okP_of (Nat.le_trans hl (okP_all h).1) fun x hx => (okP_all h).2 x (hs x hx)

set_option maxRecDepth 100000 in
set_option maxHeartbeats 32000000 in
theorem zcut_walk (f d out cut : Int) {a oa : Option Addr} {n cap om oc : Nat} {L : List In} {P : List Int} {W : World} (hL : Ins W a n cap L) (hP : Ints W oa om oc P) :
    Calls Tryz.prog 5 #[.agg (cd f d a n cap out), .slice oa om oc, .int .i64 cut] W fun e w' => e = .returned (.bool true) ∧ Below W.heap.size W w' := by
  have HA := hide fun V => zawake_any V
  have HB0 := hide (bel1 W (.cells (cd f d a n cap out) 26))
  have HC0 := hide (HasC.new W 26 (cd f d a n cap out))
  have HLI := hide hL
  have HPI := hide hP
  have HLn := hide hL.len
  have HPn := hide hP.len
  clear hL hP
  by_cases h0 : (vfE f d L out = 0 ∧ okP P = true) ∧ 0 ≤ cut ∧ cut ≤ om
  · obtain ⟨⟨h0, hok⟩, hc0, hc1⟩ := h0
    obtain ⟨k, rfl⟩ : ∃ k : Nat, cut = k := ⟨cut.toNat, by omega⟩
    have hk : k ≤ om := by omega
    obtain ⟨⟨I, u⟩, hI⟩ : ∃ x, psF f d P (L, out) = x := ⟨_, rfl⟩
    obtain ⟨⟨I1, u1⟩, hI1⟩ : ∃ x, psF f d (P.take k) (L, out) = x := ⟨_, rfl⟩
    have hI2 : psF f d (P.drop k) (I1, u1) = (I, u) := by rw [← hI1, ← psF_app, List.take_append_drop]; exact hI
    have hv1 : vfE f d I1 u1 = 0 := by have := (psF_keeps (f := f) (d := d) (P.take k) (L, out) h0).tk; rw [hI1] at this; exact this
    have hok1 : okP (P.take k) = true := okP_sub hok (by rw [List.length_take]; omega) fun x hx => List.mem_of_mem_take hx
    have hok2 : okP (P.drop k) = true := okP_sub hok (by rw [List.length_drop]; omega) fun x hx => List.mem_of_mem_drop hx
    obtain ⟨l, hl⟩ : ∃ l, I.length = l := ⟨_, rfl⟩
    obtain ⟨l1, hl1⟩ : ∃ l, I1.length = l := ⟨_, rfl⟩
    have HS1 := hide fun w' => cut_to HPI.out hk w'
    have HS2 := hide fun w' => cut_from HPI.out hk w'
    have HR0 := hide (zrun_ok f d out (HLI.out.later HB0.out) (HPI.out.later HB0.out) hok h0 hI hl)
    have HR1 := hide fun V (h : Below W.heap.size W V) => zrun_ok f d out (HLI.out.later h) (ints_take (HPI.out.later h) hk) hok1 h0 hI1 hl1
    have HR2 := hide fun V a1 c1 (h : Below W.heap.size W V) (h1 : Ins V a1 l1 c1 I1) => zrun_ok f d u1 h1 (ints_from (HPI.out.later h) hk) hok2 hv1 hI2 hl
    have HR3 := hide fun V (h : Below W.heap.size W V) => zrun_ok f d out (HLI.out.later h) (P := []) (oa := none) (m := 0) (oc := 0) ⟨rfl, Nat.le_refl _, Nat.zero_le _, fun _ => rfl, .inl rfl⟩ (by decide) h0 (psF_nil f d (L, out)) HLn.out
    have HM1 := hide fun V a1 c1 a2 c2 (h1 : Ins V a1 l c1 I) (h2 : Ins V a2 l c2 I) => Cde.csame_any f d u f d u h1 h2
    have HM2 := hide fun V a1 c1 (h1 : Ins V a1 n c1 L) (h2 : Ins V a n cap L) => Cde.csame_any f d out f d out h1 h2
    rw [show Cde.sameB f d u I f d u I = true by simp [Cde.sameB]] at HM1
    rw [show Cde.sameB f d out L f d out L = true by simp [Cde.sameB]] at HM2
    have HK := hide hk
    have j0 : decide ((k : Int) < 0) = false := by simp
    have j1 : decide ((om : Int) < (k : Int)) = false := by simp; omega
    have j2 : decide (om < k) = false := by simp; omega
    clear hI hI1 hI2 hv1 hok1 hok2 hl hl1 h0 hok hk
    go_enter Tryz.func5, Tryz.ntmps5
    go_wp2_with fail
    refine HR0.out.mono ?_
    rintro e V1 ⟨a1, c1, rfl, hO, hb⟩
    have hb2 := bel1 V1 (.cells (cd f d a1 l c1 u) 26)
    have HQ1 : Hid (Cq W (V1.alloc (.cells (cd f d a1 l c1 u) 26)) (cd f d a n cap out) (cd f d a1 l c1 u) V1.heap.size) := hide ⟨(HC0.out.below hb).below hb2, HasC.new _ _ _, bel (bel HB0.out hb) hb2⟩
    have HI1 := hide (ins_owned (Cde.own_later hO hb2))
    clear hb hb2 hO HC0 HB0 HR0
    go_wp2_with fail
    generalize V1.heap.size = ba at *
    obtain ⟨V2, hV2⟩ : ∃ V2, V1.alloc (.cells (cd f d a1 l c1 u) 26) = V2 := ⟨_, rfl⟩
    rw [hV2] at HQ1 HI1 ⊢
    clear hV2
    refine (HA.out _).mono ?_
    rintro e V3 ⟨rfl, hb⟩
    have HQ3 := hide (HQ1.out.below hb)
    have HI3 := hide (HI1.out.later hb)
    clear hb HQ1 HI1
    go_wp2_with fail
    have HCb := hide HQ3.out.c
    have HRw := hide fun (w : World) (h : Below V3.heap.size V3 w) => HR1.out w (bel HQ3.out.lo h)
    clear HR1
    refine wp_flagsB3 mixedF (ord_ofB (by kernel_rfl)) (fun a0 q A w => ∃ y0 y1 y2 y3 y4 y5 y6 y7 y8 y10, A = ⟨((((((((((a0.tmps.setIfInBounds 39 y0).setIfInBounds 40 y1).setIfInBounds 41 y2).setIfInBounds 42 y3).setIfInBounds 43 y4).setIfInBounds 38 y5).setIfInBounds 44 y6).setIfInBounds 45 y7).setIfInBounds 9 y8).setIfInBounds 10 y10), a0.defers⟩ ∧ Sq V3 (.agg (cd f d a n cap out)) (.slice oa om oc) (.int .i64 (k : Int)) (.slice oa k oc) f d u1 0 l1 I1 q y0 y1 y2 y3 y4 y5 y6 y7 y8 y10 w) ?_ ?_ ?_
    · simp only [List.setIfInBounds_toArray, List.set_cons_succ, List.set_cons_zero]
      refine ⟨_, _, _, _, _, _, _, _, _, _, rfl, below_drew V3, ?_, ?_, ?_, ?_, ?_, ?_, ?_, ?_, ?_, ?_, ?_⟩
      all_goals (intro h; cases h; done)
    · rintro q A w i op ⟨y0, y1, y2, y3, y4, y5, y6, y7, y8, y10, rfl, C⟩ hdi ho haft Q' hk'
      simp only [List.setIfInBounds_toArray, List.set_cons_succ, List.set_cons_zero] at hk' ⊢
      have HK := hide hk'
      clear hk'
      have hi : i < 11 := (Array.getElem?_eq_some_iff.1 ho).1
      match i, hi with
      | 0, _ =>
        obtain rfl := (Option.some.inj ho)
        clear haft ho
        obtain ⟨q0, q1, q2, q3⟩ := four_of (HCb.out.below C.bel)
        have C := hide C
        go_wp2
        have C := C.out
        exact HK.out _ _ ⟨_, y1, y2, y3, y4, y5, y6, y7, y8, y10, rfl, ⟨C.bel, (fun _ => rfl), C.ml, C.mq, C.sl, C.ca, (fun h => ⟨or_t (C.mv h).1, (C.mv h).2⟩), (fun h => ⟨or_t (C.e0 h).1, (C.e0 h).2⟩), C.e1, C.al, (fun h => ⟨or_t (C.st h).1, or_t (C.st h).2.1, (C.st h).2.2⟩), C.sg⟩⟩
      | 1, _ =>
        obtain rfl := (Option.some.inj ho)
        clear haft ho
        have C := hide C
        go_wp2
        have C := C.out
        exact HK.out _ _ ⟨y0, _, y2, y3, y4, y5, y6, y7, y8, y10, rfl, ⟨C.bel, C.ld, (fun _ => rfl), C.mq, C.sl, C.ca, (fun h => ⟨or_t (C.mv h).1, (C.mv h).2⟩), (fun h => ⟨or_t (C.e0 h).1, (C.e0 h).2⟩), C.e1, C.al, (fun h => ⟨or_t (C.st h).1, or_t (C.st h).2.1, (C.st h).2.2⟩), C.sg⟩⟩
      | 2, _ =>
        obtain rfl := (Option.some.inj ho)
        clear haft ho
        have C := hide C
        go_wp2
        have C := C.out
        exact HK.out _ _ ⟨y0, y1, _, y3, y4, y5, y6, y7, y8, y10, rfl, ⟨C.bel, C.ld, C.ml, (fun _ => rfl), C.sl, C.ca, (fun h => ⟨or_t (C.mv h).1, (C.mv h).2⟩), (fun h => ⟨or_t (C.e0 h).1, (C.e0 h).2⟩), C.e1, C.al, (fun h => ⟨or_t (C.st h).1, or_t (C.st h).2.1, (C.st h).2.2⟩), C.sg⟩⟩
      | 3, _ =>
        obtain rfl := (Option.some.inj ho)
        have gml : q 1 = true := haft ⟨1, .data⟩ (by simp) rfl
        have gmq : q 2 = true := haft ⟨2, .data⟩ (by simp) rfl
        clear haft ho
        have eml := C.ml gml
        subst eml
        have emq := C.mq gmq
        subst emq
        have hsl := HS1.out
        have C := hide C
        go_wp2
        have C := C.out
        exact HK.out _ _ ⟨y0, _, _, _, y4, y5, y6, y7, y8, y10, rfl, ⟨C.bel, C.ld, C.ml, C.mq, (fun _ => rfl), C.ca, (fun h => ⟨or_t (C.mv h).1, (C.mv h).2⟩), (fun h => ⟨or_t (C.e0 h).1, (C.e0 h).2⟩), C.e1, C.al, (fun h => ⟨or_t (C.st h).1, or_t (C.st h).2.1, (C.st h).2.2⟩), C.sg⟩⟩
      | 4, _ =>
        obtain rfl := (Option.some.inj ho)
        have gld : q 0 = true := haft ⟨0, .data⟩ (by simp) rfl
        have gsl : q 3 = true := haft ⟨3, .data⟩ (by simp) rfl
        clear haft ho
        have eld := C.ld gld
        have esl := C.sl gsl
        subst eld esl
        have HLw := hide (HRw.out w C.bel)
        have C := hide C
        go_wp2_with fail
        refine HLw.out.mono ?_
        rintro e w' ⟨al, cl, rfl, hO, hb⟩
        have HOw := hide hO
        have HBw := hide hb
        clear hO hb
        go_wp2_with fail
        have C := C.out
        have hb := HBw.out
        have hO := HOw.out
        exact HK.out _ _ ⟨_, y1, y2, _, _, y5, y6, y7, y8, y10, rfl, ⟨(bel C.bel hb), C.ld, C.ml, C.mq, C.sl, (fun _ => ⟨al, cl, rfl, Cde.own_mono hO C.bel.size⟩), (fun h => by have h2 := (C.mv h).1; rw [hdi] at h2; cases h2), (fun h => by have h2 := (C.e0 h).1; rw [hdi] at h2; cases h2), C.e1, (fun h h2 => by obtain ⟨g, e, hc, hg⟩ := C.al h h2; exact ⟨g, e, hc.below hb, hg⟩), (fun h => by have h2 := (C.st h).2.1; rw [hdi] at h2; cases h2), C.sg⟩⟩
      | 5, _ =>
        obtain rfl := (Option.some.inj ho)
        have gca : q 4 = true := haft ⟨4, .data⟩ (by simp) rfl
        clear haft ho
        obtain ⟨az, cz, e4, hOz⟩ := C.ca gca
        subst e4
        have C := hide C
        go_wp2
        have C := C.out
        exact HK.out _ _ ⟨y0, y1, y2, y3, _, _, y6, y7, y8, y10, rfl, ⟨C.bel, C.ld, C.ml, C.mq, C.sl, C.ca, (fun _ => ⟨or_t gca, rfl⟩), (fun h => ⟨or_t (C.e0 h).1, (C.e0 h).2⟩), C.e1, C.al, (fun h => ⟨or_t (C.st h).1, or_t (C.st h).2.1, (C.st h).2.2⟩), C.sg⟩⟩
      | 6, _ =>
        obtain rfl := (Option.some.inj ho)
        have gmv : q 5 = true := haft ⟨5, .data⟩ (by simp) rfl
        clear haft ho
        obtain ⟨gca, e5⟩ := C.mv gmv
        obtain ⟨az, cz, e4, hOz⟩ := C.ca gca
        subst e4
        subst e5
        have C := hide C
        go_wp2
        have C := C.out
        exact HK.out _ _ ⟨y0, y1, y2, y3, _, _, _, y7, y8, y10, rfl, ⟨C.bel, C.ld, C.ml, C.mq, C.sl, C.ca, (fun h => ⟨or_t (C.mv h).1, (C.mv h).2⟩), (fun _ => ⟨or_t gca, az, cz, rfl, rfl⟩), C.e1, C.al, (fun h => ⟨or_t (C.st h).1, or_t (C.st h).2.1, (C.st h).2.2⟩), C.sg⟩⟩
      | 7, _ =>
        obtain rfl := (Option.some.inj ho)
        have gmv : q 5 = true := haft ⟨5, .data⟩ (by simp) rfl
        clear haft ho
        obtain ⟨gca, e5⟩ := C.mv gmv
        obtain ⟨az, cz, e4, hOz⟩ := C.ca gca
        subst e4
        subst e5
        have C := hide C
        go_wp2
        have C := C.out
        exact HK.out _ _ ⟨y0, y1, y2, y3, _, _, y6, _, y8, y10, rfl, ⟨C.bel, C.ld, C.ml, C.mq, C.sl, C.ca, (fun h => ⟨or_t (C.mv h).1, (C.mv h).2⟩), (fun h => ⟨or_t (C.e0 h).1, (C.e0 h).2⟩), (fun _ => rfl), C.al, (fun h => ⟨or_t (C.st h).1, or_t (C.st h).2.1, (C.st h).2.2⟩), C.sg⟩⟩
      | 8, _ =>
        obtain rfl := (Option.some.inj ho)
        clear haft ho
        have C := hide C
        go_wp2
        have C := C.out
        have hb : Below V3.heap.size V3 (w.alloc (.cells cdz 26)) := C.bel.alloc C.bel.size _
        exact HK.out _ _ ⟨y0, y1, y2, y3, y4, y5, y6, y7, _, y10, rfl, ⟨hb, C.ld, C.ml, C.mq, C.sl, (fun h => by obtain ⟨a, c, e, hO⟩ := C.ca h; exact ⟨a, c, e, hO.alloc _⟩), (fun h => ⟨or_t (C.mv h).1, (C.mv h).2⟩), (fun h => ⟨or_t (C.e0 h).1, (C.e0 h).2⟩), C.e1, (fun _ _ => ⟨_, rfl, HasC.new w 26 cdz, C.bel.size⟩), (fun h => by have h2 := (C.st h).1; rw [hdi] at h2; cases h2), C.sg⟩⟩
      | 9, _ =>
        obtain rfl := (Option.some.inj ho)
        have gal : q 8 = true := haft ⟨8, .data⟩ (by simp) rfl
        have ge0 : q 6 = true := haft ⟨6, .data⟩ (by simp) rfl
        clear haft ho
        obtain ⟨gca, az, cz, e4, e6⟩ := C.e0 ge0
        obtain ⟨a5z, c5z, e5, hOz⟩ := C.ca gca
        obtain ⟨g, e8, hx, hg⟩ := C.al gal hdi
        subst e4
        cases e5
        subst e6 e8
        obtain ⟨q0, q1, q2, q3⟩ := four_of hx
        obtain ⟨s0, s1, s2, s3⟩ := four_fr hx
        have HX := hide hx
        clear hx
        have C := hide C
        go_wp2
        have C := C.out
        have hO := s4_own hOz (own_ne hOz HX.out (by decide)) (.int .i64 f) (.int .i64 d) (.slice az l1 cz) (.int .i64 u1)
        have h4 := (((HX.out.set 0 (.int .i64 f)).set 1 (.int .i64 d)).set 2 (.slice az l1 cz)).set 3 (.int .i64 u1)
        have hb := (((C.bel.setCell (p := ⟨g, 0, none⟩) (by simpa using hg) (.int .i64 f)).setCell (p := ⟨g, 1, none⟩) (by simpa using hg) (.int .i64 d)).setCell (p := ⟨g, 2, none⟩) (by simpa using hg) (.slice az l1 cz)).setCell (p := ⟨g, 3, none⟩) (by simpa using hg) (.int .i64 u1)
        exact HK.out _ _ ⟨y0, y1, y2, y3, _, y5, _, y7, _, y10, rfl, ⟨hb, C.ld, C.ml, C.mq, C.sl, (fun _ => ⟨az, cz, rfl, hO⟩), (fun h => ⟨or_t (C.mv h).1, (C.mv h).2⟩), (fun _ => ⟨or_t gca, az, cz, rfl, rfl⟩), C.e1, (fun _ h => by cases h), (fun _ => ⟨or_t gal, or_t gca, g, az, cz, rfl, rfl, h4⟩), C.sg⟩⟩
      | 10, _ =>
        obtain rfl := (Option.some.inj ho)
        have ge1 : q 7 = true := haft ⟨7, .data⟩ (by simp) rfl
        clear haft ho
        have e7 := C.e1 ge1
        subst e7
        have C := hide C
        go_wp2
        have C := C.out
        exact HK.out _ _ ⟨y0, y1, y2, y3, y4, y5, y6, _, y8, _, rfl, ⟨C.bel, C.ld, C.ml, C.mq, C.sl, C.ca, (fun h => ⟨or_t (C.mv h).1, (C.mv h).2⟩), (fun h => ⟨or_t (C.e0 h).1, (C.e0 h).2⟩), C.e1, C.al, (fun h => ⟨or_t (C.st h).1, or_t (C.st h).2.1, (C.st h).2.2⟩), (fun _ => rfl)⟩⟩
    rintro q A V4 ⟨y0, y1, y2, y3, y4, y5, y6, y7, y8, y10, rfl, C⟩ hall
    simp only [List.setIfInBounds_toArray, List.set_cons_succ, List.set_cons_zero]
    have D : ∀ i, i < 11 → q i = true := hall
    obtain ⟨-, -, g4, a4, c4, e4, e8, hB4⟩ := C.st (D 9 (by omega))
    obtain ⟨ax, cx, ex, hO4⟩ := C.ca (D 4 (by omega))
    obtain ⟨-, ay, cy, ey, e6⟩ := C.e0 (D 6 (by omega))
    obtain ⟨-, e5⟩ := C.mv (D 5 (by omega))
    have hld := C.ld (D 0 (by omega))
    have hml := C.ml (D 1 (by omega))
    have hmq := C.mq (D 2 (by omega))
    have hsl := C.sl (D 3 (by omega))
    have he1 := C.e1 (D 7 (by omega))
    have hsg := C.sg (D 10 (by omega))
    have hb4 := C.bel
    subst e4
    cases ex
    cases ey
    subst e5 e6 e8 hld hml hmq hsl he1 hsg
    clear D hall C
    have HQ4 := hide (HQ3.out.below hb4)
    have HI4 := hide (HI3.out.later hb4)
    have HB4 := hide hB4
    have HJ4 := hide (ins_owned hO4)
    clear hb4 hB4 hO4 HQ3 HI3 HCb HRw HS1
    go_wp2_with fail
    have HRw := hide fun (w : World) (h : Below V4.heap.size V4 w) => HR2.out w _ _ (bel HQ4.out.lo h) (HJ4.out.later h)
    clear HR2
    refine wp_flagsB3 mixedF (ord_ofB (by kernel_rfl)) (fun a0 q A w => ∃ y0 y1 y2 y3 y4 y5 y6 y7 y8 y10, A = ⟨((((((((((a0.tmps.setIfInBounds 47 y0).setIfInBounds 48 y1).setIfInBounds 49 y2).setIfInBounds 50 y3).setIfInBounds 51 y4).setIfInBounds 46 y5).setIfInBounds 52 y6).setIfInBounds 53 y7).setIfInBounds 11 y8).setIfInBounds 12 y10), a0.defers⟩ ∧ Sq V4 (.agg (cd f d a4 l1 c4 u1)) (.slice oa om oc) (.int .i64 (k : Int)) (.slice (fromA oa oc k) (om - k) (oc - k)) f d u 0 l I q y0 y1 y2 y3 y4 y5 y6 y7 y8 y10 w) ?_ ?_ ?_
    · simp only [List.setIfInBounds_toArray, List.set_cons_succ, List.set_cons_zero]
      refine ⟨_, _, _, _, _, _, _, _, _, _, rfl, below_drew V4, ?_, ?_, ?_, ?_, ?_, ?_, ?_, ?_, ?_, ?_, ?_⟩
      all_goals (intro h; cases h; done)
    · rintro q A w i op ⟨y0, y1, y2, y3, y4, y5, y6, y7, y8, y10, rfl, C⟩ hdi ho haft Q' hk'
      simp only [List.setIfInBounds_toArray, List.set_cons_succ, List.set_cons_zero] at hk' ⊢
      have HK := hide hk'
      clear hk'
      have hi : i < 11 := (Array.getElem?_eq_some_iff.1 ho).1
      match i, hi with
      | 0, _ =>
        obtain rfl := (Option.some.inj ho)
        clear haft ho
        obtain ⟨q0, q1, q2, q3⟩ := four_of (HB4.out.below C.bel)
        have C := hide C
        go_wp2
        have C := C.out
        exact HK.out _ _ ⟨_, y1, y2, y3, y4, y5, y6, y7, y8, y10, rfl, ⟨C.bel, (fun _ => rfl), C.ml, C.mq, C.sl, C.ca, (fun h => ⟨or_t (C.mv h).1, (C.mv h).2⟩), (fun h => ⟨or_t (C.e0 h).1, (C.e0 h).2⟩), C.e1, C.al, (fun h => ⟨or_t (C.st h).1, or_t (C.st h).2.1, (C.st h).2.2⟩), C.sg⟩⟩
      | 1, _ =>
        obtain rfl := (Option.some.inj ho)
        clear haft ho
        have C := hide C
        go_wp2
        have C := C.out
        exact HK.out _ _ ⟨y0, _, y2, y3, y4, y5, y6, y7, y8, y10, rfl, ⟨C.bel, C.ld, (fun _ => rfl), C.mq, C.sl, C.ca, (fun h => ⟨or_t (C.mv h).1, (C.mv h).2⟩), (fun h => ⟨or_t (C.e0 h).1, (C.e0 h).2⟩), C.e1, C.al, (fun h => ⟨or_t (C.st h).1, or_t (C.st h).2.1, (C.st h).2.2⟩), C.sg⟩⟩
      | 2, _ =>
        obtain rfl := (Option.some.inj ho)
        clear haft ho
        have C := hide C
        go_wp2
        have C := C.out
        exact HK.out _ _ ⟨y0, y1, _, y3, y4, y5, y6, y7, y8, y10, rfl, ⟨C.bel, C.ld, C.ml, (fun _ => rfl), C.sl, C.ca, (fun h => ⟨or_t (C.mv h).1, (C.mv h).2⟩), (fun h => ⟨or_t (C.e0 h).1, (C.e0 h).2⟩), C.e1, C.al, (fun h => ⟨or_t (C.st h).1, or_t (C.st h).2.1, (C.st h).2.2⟩), C.sg⟩⟩
      | 3, _ =>
        obtain rfl := (Option.some.inj ho)
        have gml : q 1 = true := haft ⟨1, .data⟩ (by simp) rfl
        have gmq : q 2 = true := haft ⟨2, .data⟩ (by simp) rfl
        clear haft ho
        have eml := C.ml gml
        subst eml
        have emq := C.mq gmq
        subst emq
        have hsl := HS2.out
        have C := hide C
        go_wp2
        have C := C.out
        exact HK.out _ _ ⟨y0, _, _, _, y4, y5, y6, y7, y8, y10, rfl, ⟨C.bel, C.ld, C.ml, C.mq, (fun _ => rfl), C.ca, (fun h => ⟨or_t (C.mv h).1, (C.mv h).2⟩), (fun h => ⟨or_t (C.e0 h).1, (C.e0 h).2⟩), C.e1, C.al, (fun h => ⟨or_t (C.st h).1, or_t (C.st h).2.1, (C.st h).2.2⟩), C.sg⟩⟩
      | 4, _ =>
        obtain rfl := (Option.some.inj ho)
        have gld : q 0 = true := haft ⟨0, .data⟩ (by simp) rfl
        have gsl : q 3 = true := haft ⟨3, .data⟩ (by simp) rfl
        clear haft ho
        have eld := C.ld gld
        have esl := C.sl gsl
        subst eld esl
        have HLw := hide (HRw.out w C.bel)
        have C := hide C
        go_wp2_with fail
        refine HLw.out.mono ?_
        rintro e w' ⟨al, cl, rfl, hO, hb⟩
        have HOw := hide hO
        have HBw := hide hb
        clear hO hb
        go_wp2_with fail
        have C := C.out
        have hb := HBw.out
        have hO := HOw.out
        exact HK.out _ _ ⟨_, y1, y2, _, _, y5, y6, y7, y8, y10, rfl, ⟨(bel C.bel hb), C.ld, C.ml, C.mq, C.sl, (fun _ => ⟨al, cl, rfl, Cde.own_mono hO C.bel.size⟩), (fun h => by have h2 := (C.mv h).1; rw [hdi] at h2; cases h2), (fun h => by have h2 := (C.e0 h).1; rw [hdi] at h2; cases h2), C.e1, (fun h h2 => by obtain ⟨g, e, hc, hg⟩ := C.al h h2; exact ⟨g, e, hc.below hb, hg⟩), (fun h => by have h2 := (C.st h).2.1; rw [hdi] at h2; cases h2), C.sg⟩⟩
      | 5, _ =>
        obtain rfl := (Option.some.inj ho)
        have gca : q 4 = true := haft ⟨4, .data⟩ (by simp) rfl
        clear haft ho
        obtain ⟨az, cz, e4, hOz⟩ := C.ca gca
        subst e4
        have C := hide C
        go_wp2
        have C := C.out
        exact HK.out _ _ ⟨y0, y1, y2, y3, _, _, y6, y7, y8, y10, rfl, ⟨C.bel, C.ld, C.ml, C.mq, C.sl, C.ca, (fun _ => ⟨or_t gca, rfl⟩), (fun h => ⟨or_t (C.e0 h).1, (C.e0 h).2⟩), C.e1, C.al, (fun h => ⟨or_t (C.st h).1, or_t (C.st h).2.1, (C.st h).2.2⟩), C.sg⟩⟩
      | 6, _ =>
        obtain rfl := (Option.some.inj ho)
        have gmv : q 5 = true := haft ⟨5, .data⟩ (by simp) rfl
        clear haft ho
        obtain ⟨gca, e5⟩ := C.mv gmv
        obtain ⟨az, cz, e4, hOz⟩ := C.ca gca
        subst e4
        subst e5
        have C := hide C
        go_wp2
        have C := C.out
        exact HK.out _ _ ⟨y0, y1, y2, y3, _, _, _, y7, y8, y10, rfl, ⟨C.bel, C.ld, C.ml, C.mq, C.sl, C.ca, (fun h => ⟨or_t (C.mv h).1, (C.mv h).2⟩), (fun _ => ⟨or_t gca, az, cz, rfl, rfl⟩), C.e1, C.al, (fun h => ⟨or_t (C.st h).1, or_t (C.st h).2.1, (C.st h).2.2⟩), C.sg⟩⟩
      | 7, _ =>
        obtain rfl := (Option.some.inj ho)
        have gmv : q 5 = true := haft ⟨5, .data⟩ (by simp) rfl
        clear haft ho
        obtain ⟨gca, e5⟩ := C.mv gmv
        obtain ⟨az, cz, e4, hOz⟩ := C.ca gca
        subst e4
        subst e5
        have C := hide C
        go_wp2
        have C := C.out
        exact HK.out _ _ ⟨y0, y1, y2, y3, _, _, y6, _, y8, y10, rfl, ⟨C.bel, C.ld, C.ml, C.mq, C.sl, C.ca, (fun h => ⟨or_t (C.mv h).1, (C.mv h).2⟩), (fun h => ⟨or_t (C.e0 h).1, (C.e0 h).2⟩), (fun _ => rfl), C.al, (fun h => ⟨or_t (C.st h).1, or_t (C.st h).2.1, (C.st h).2.2⟩), C.sg⟩⟩
      | 8, _ =>
        obtain rfl := (Option.some.inj ho)
        clear haft ho
        have C := hide C
        go_wp2
        have C := C.out
        have hb : Below V4.heap.size V4 (w.alloc (.cells cdz 26)) := C.bel.alloc C.bel.size _
        exact HK.out _ _ ⟨y0, y1, y2, y3, y4, y5, y6, y7, _, y10, rfl, ⟨hb, C.ld, C.ml, C.mq, C.sl, (fun h => by obtain ⟨a, c, e, hO⟩ := C.ca h; exact ⟨a, c, e, hO.alloc _⟩), (fun h => ⟨or_t (C.mv h).1, (C.mv h).2⟩), (fun h => ⟨or_t (C.e0 h).1, (C.e0 h).2⟩), C.e1, (fun _ _ => ⟨_, rfl, HasC.new w 26 cdz, C.bel.size⟩), (fun h => by have h2 := (C.st h).1; rw [hdi] at h2; cases h2), C.sg⟩⟩
      | 9, _ =>
        obtain rfl := (Option.some.inj ho)
        have gal : q 8 = true := haft ⟨8, .data⟩ (by simp) rfl
        have ge0 : q 6 = true := haft ⟨6, .data⟩ (by simp) rfl
        clear haft ho
        obtain ⟨gca, az, cz, e4, e6⟩ := C.e0 ge0
        obtain ⟨a5z, c5z, e5, hOz⟩ := C.ca gca
        obtain ⟨g, e8, hx, hg⟩ := C.al gal hdi
        subst e4
        cases e5
        subst e6 e8
        obtain ⟨q0, q1, q2, q3⟩ := four_of hx
        obtain ⟨s0, s1, s2, s3⟩ := four_fr hx
        have HX := hide hx
        clear hx
        have C := hide C
        go_wp2
        have C := C.out
        have hO := s4_own hOz (own_ne hOz HX.out (by decide)) (.int .i64 f) (.int .i64 d) (.slice az l cz) (.int .i64 u)
        have h4 := (((HX.out.set 0 (.int .i64 f)).set 1 (.int .i64 d)).set 2 (.slice az l cz)).set 3 (.int .i64 u)
        have hb := (((C.bel.setCell (p := ⟨g, 0, none⟩) (by simpa using hg) (.int .i64 f)).setCell (p := ⟨g, 1, none⟩) (by simpa using hg) (.int .i64 d)).setCell (p := ⟨g, 2, none⟩) (by simpa using hg) (.slice az l cz)).setCell (p := ⟨g, 3, none⟩) (by simpa using hg) (.int .i64 u)
        exact HK.out _ _ ⟨y0, y1, y2, y3, _, y5, _, y7, _, y10, rfl, ⟨hb, C.ld, C.ml, C.mq, C.sl, (fun _ => ⟨az, cz, rfl, hO⟩), (fun h => ⟨or_t (C.mv h).1, (C.mv h).2⟩), (fun _ => ⟨or_t gca, az, cz, rfl, rfl⟩), C.e1, (fun _ h => by cases h), (fun _ => ⟨or_t gal, or_t gca, g, az, cz, rfl, rfl, h4⟩), C.sg⟩⟩
      | 10, _ =>
        obtain rfl := (Option.some.inj ho)
        have ge1 : q 7 = true := haft ⟨7, .data⟩ (by simp) rfl
        clear haft ho
        have e7 := C.e1 ge1
        subst e7
        have C := hide C
        go_wp2
        have C := C.out
        exact HK.out _ _ ⟨y0, y1, y2, y3, y4, y5, y6, _, y8, _, rfl, ⟨C.bel, C.ld, C.ml, C.mq, C.sl, C.ca, (fun h => ⟨or_t (C.mv h).1, (C.mv h).2⟩), (fun h => ⟨or_t (C.e0 h).1, (C.e0 h).2⟩), C.e1, C.al, (fun h => ⟨or_t (C.st h).1, or_t (C.st h).2.1, (C.st h).2.2⟩), (fun _ => rfl)⟩⟩
    rintro q A V5 ⟨y0, y1, y2, y3, y4, y5, y6, y7, y8, y10, rfl, C⟩ hall
    simp only [List.setIfInBounds_toArray, List.set_cons_succ, List.set_cons_zero]
    have D : ∀ i, i < 11 → q i = true := hall
    obtain ⟨-, -, g5, a5, c5, e4, e8, hB5⟩ := C.st (D 9 (by omega))
    obtain ⟨ax, cx, ex, hO5⟩ := C.ca (D 4 (by omega))
    obtain ⟨-, ay, cy, ey, e6⟩ := C.e0 (D 6 (by omega))
    obtain ⟨-, e5⟩ := C.mv (D 5 (by omega))
    have hld := C.ld (D 0 (by omega))
    have hml := C.ml (D 1 (by omega))
    have hmq := C.mq (D 2 (by omega))
    have hsl := C.sl (D 3 (by omega))
    have he1 := C.e1 (D 7 (by omega))
    have hsg := C.sg (D 10 (by omega))
    have hb5 := C.bel
    subst e4
    cases ex
    cases ey
    subst e5 e6 e8 hld hml hmq hsl he1 hsg
    clear D hall C
    have HQ5 := hide (HQ4.out.below hb5)
    have HI5 := hide (HI4.out.later hb5)
    have HB5 := hide hB5
    have HJ5 := hide (ins_owned hO5)
    clear hb5 hB5 hO5 HQ4 HI4 HB4 HJ4 HRw HS2
    obtain ⟨x0, x1, x2, x3⟩ := four_of HQ5.out.c
    go_wp2_with fail
    refine (HR3.out V5 HQ5.out.lo).mono ?_
    rintro e V6 ⟨a6, c6, rfl, hO, hb⟩
    have hb2 := bel1 V6 (.cells (cd f d a6 n c6 out) 26)
    have HQ6 := hide ((HQ5.out.below hb).below hb2)
    have HI6 := hide ((HI5.out.later hb).later hb2)
    have HB6 := hide ((HB5.out.below hb).below hb2)
    have HJ6 := hide ((HJ5.out.later hb).later hb2)
    have HX6 := hide (HasC.new V6 26 (cd f d a6 n c6 out))
    have HY6 := hide (ins_owned (Cde.own_later hO hb2))
    clear hb hb2 hO HQ5 HI5 HB5 HJ5 x0 x1 x2 x3 HR3
    go_upto_region 7 with fail
    generalize V6.heap.size = bx at *
    obtain ⟨V7, hV7⟩ : ∃ V7, V6.alloc (.cells (cd f d a6 n c6 out) 26) = V7 := ⟨_, rfl⟩
    rw [hV7] at HQ6 HI6 HB6 HJ6 HX6 HY6 ⊢
    clear hV7
    obtain ⟨x0, x1, x2, x3⟩ := four_of HQ6.out.a
    obtain ⟨y0, y1, y2, y3⟩ := four_of HB6.out
    go_wp2_with fail
    refine (HM1.out _ _ _ _ _ HI6.out HJ6.out).mono ?_
    rintro e V8 ⟨rfl, hb⟩
    have HQ8 := hide (HQ6.out.below hb)
    have HX8 := hide (HX6.out.below hb)
    have HY8 := hide (HY6.out.later hb)
    clear hb HQ6 HI6 HB6 HJ6 HX6 HY6 x0 x1 x2 x3 y0 y1 y2 y3
    obtain ⟨x0, x1, x2, x3⟩ := four_of HQ8.out.c
    obtain ⟨y0, y1, y2, y3⟩ := four_of HX8.out
    go_wp2_with fail
    refine (HM2.out _ _ _ HY8.out (HLI.out.later HQ8.out.lo)).mono ?_
    rintro e V9 ⟨rfl, hb⟩
    have HQ9 := hide (HQ8.out.below hb)
    clear hb x0 x1 x2 x3 y0 y1 y2 y3 HQ8 HX8 HY8
    go_wp2_with fail
    go_ret
    exact ⟨rfl, HQ9.out.lo⟩
  · have HR0 := hide (zrun_any f d out (HLI.out.later HB0.out) (HPI.out.later HB0.out))
    unfold RnP at HR0
    have her : rnE f d L out P ≠ 0 ∨ cut < 0 ∨ (om : Int) < cut := by
      by_cases hc : 0 ≤ cut ∧ cut ≤ om
      · refine .inl fun e => h0 ⟨?_, hc⟩
        rw [rnE] at e
        by_cases hok : okP P = true
        · rw [if_pos hok] at e; exact ⟨e, hok⟩
        · rw [if_neg hok] at e; exact absurd e (by decide)
      · omega
    generalize rnI f d L out P = I at *
    generalize rnU f d L out P = u at *
    generalize rnK f d L out P f = kf at *
    generalize rnK f d L out P d = kd' at *
    generalize rnE f d L out P = er at *
    obtain ⟨l, hl⟩ : ∃ l, I.length = l := ⟨_, rfl⟩
    rw [hl] at HR0
    have HEr := hide her
    clear h0 hl her
    go_enter Tryz.func5, Tryz.ntmps5
    go_wp2_with fail
    refine HR0.out.mono ?_
    rintro e V1 ⟨a1, c1, rfl, hO, hb⟩
    have HB1 := hide (bel (bel HB0.out hb) (bel1 V1 (.cells (cd kf kd' a1 l c1 u) 26)))
    clear hb hO HC0 HB0 HR0
    go_wp2_with fail
    refine (HA.out _).mono ?_
    rintro e V3 ⟨rfl, hb⟩
    have HB3 := hide (bel HB1.out hb)
    clear hb HB1
    rcases (show cut < 0 ∨ (¬ cut < 0 ∧ (om : Int) < cut) ∨ (¬ cut < 0 ∧ ¬ (om : Int) < cut ∧ er ≠ 0) by
      rcases HEr.out with h | h | h
      · by_cases h1 : cut < 0
        · exact .inl h1
        · by_cases h2 : (om : Int) < cut
          · exact .inr (.inl ⟨h1, h2⟩)
          · exact .inr (.inr ⟨h1, h2, h⟩)
      · exact .inl h
      · exact .inr (.inl ⟨by omega, h⟩)) with h1 | ⟨h1, h2⟩ | ⟨h1, h2, h3⟩
    · clear HEr
      go_wp2_with fail
      refine (HA.out _).mono ?_
      rintro e V4 ⟨rfl, hb⟩
      have HB4 := hide (bel HB3.out hb)
      clear hb
      go_wp2_with fail
      go_ret
      exact ⟨rfl, HB4.out⟩
    · clear HEr
      go_wp2_with fail
      refine (HA.out _).mono ?_
      rintro e V4 ⟨rfl, hb⟩
      have HB4 := hide (bel HB3.out hb)
      clear hb
      go_wp2_with fail
      go_ret
      exact ⟨rfl, HB4.out⟩
    · clear HEr
      have hr : (er != 0) = true := by simpa using h3
      go_wp2_with fail
      refine (HA.out _).mono ?_
      rintro e V4 ⟨rfl, hb⟩
      have HB4 := hide (bel HB3.out hb)
      clear hb
      go_wp2_with fail
      go_ret
      exact ⟨rfl, HB4.out⟩

end Go.Proofs.Pss
