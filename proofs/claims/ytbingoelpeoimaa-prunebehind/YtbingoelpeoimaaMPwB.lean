/-
  PruneBehind's walk.
-/
import Derived.Test.YtbingoelpeoimaaMPw0
import Derived.Test.YtbingoelpeoimaaMCdE
namespace Go.Proofs.Prn
open Go.RowKit Go.IntWalk Ytbingoelpeoimaa.Knd
open Cde (In i0 ia kd cd Ins at6 six_of four_of two_of has_new1 below_drew is6 i6 or_t ord_of)
open Rdc (mixedF own_ne own_grow own_two cdz s4 four_fr s4_own infoI)
open Vfy (vfE vfN vfC)
set_option linter.unusedVariables false

theorem wp_flags3 {P : Program} {ops : Array Oper} {Q : Exit → Act → World → Prop} {id : Nat} {a : Act} {w : World} (hm : P.follows .mixedOrders = true)
    (hord : ∀ (i : Nat) (o : Oper), ops[i]? = some o → ∀ e ∈ o.after, e.on < i) (I : Act → (Nat → Bool) → Act → World → Prop)
    (h0 : I a (fun _ => false) a { w with drawn := w.drawn + 1 })
    (hs : ∀ d A w i o, I a d A w → d i = false → ops[i]? = some o → (∀ e ∈ o.after, Region.binds .any e = true → d e.on = true) → ∀ Q' : Exit → Act → World → Prop, (∀ A w, I a (fun j => j == i || d j) A w → Q' .normal A w) → wpList P ops Q' [o] A w)
    (he : ∀ d A w, I a d A w → (∀ i, i < ops.size → d i = true) → Q .normal A w) : (Code.region id ops true).wp P Q a w := Cde.wp_region_flags hm hord (I a) h0 hs he
/-- The drawn region that joins the two lists, by which of its operations are done. -/
structure Bq (V : World) (cb : Nat) (f d out : Int) (a : Option Addr) (n cap : Nat) (ma : Option Addr) (mn mc : Nat) (L M : List In) (q : Nat → Bool) (y0 y1 y2 y3 y4 y5 y6 y7 y8 y9 y10 y11 : Value) (w : World) : Prop where
  bel : Below V.heap.size V w
  f0 : q 0 = true → y0 = .pointer (some ⟨cb, 0, none⟩)
  f1 : q 1 = true → y1 = .agg (kd f d)
  f2 : q 2 = true → q 5 = false → ∃ g, y2 = .slice (some ⟨g, 0, none⟩) 0 0 ∧ HasC w g 48 #[] ∧ V.heap.size ≤ g
  f3 : q 3 = true → y3 = .pointer (some ⟨cb, 2, none⟩)
  f4 : q 4 = true → y4 = .slice a n cap
  f5 : q 5 = true → q 7 = false → w.ownsRow V.heap.size 48 6 y5 n (is6 L)
  f6 : q 6 = true → y6 = .slice ma mn mc
  f7 : q 7 = true → q 5 = true ∧ w.ownsRow V.heap.size 48 6 y7 (n + mn) (is6 (L ++ M))
  f8 : q 8 = true → y8 = .pointer (some ⟨cb, 3, none⟩)
  f9 : q 9 = true → y9 = .int .i64 out
  f10 : q 10 = true → q 7 = true ∧ y10 = .agg #[.int .i64 f, .int .i64 d, y7, .int .i64 out]
  f11 : q 11 = true → q 12 = false → ∃ g, y11 = .pointer (some ⟨g, 0, none⟩) ∧ HasC w g 26 cdz ∧ V.heap.size ≤ g
  f12 : q 12 = true → q 7 = true ∧ ∃ g, y11 = .pointer (some ⟨g, 0, none⟩) ∧ HasC w g 26 #[.int .i64 f, .int .i64 d, y7, .int .i64 out]
  f13 : q 12 = true → q 11 = true
/-- The law's boxes. -/
structure Bx (W V : World) (cv dv : Array Value) (bd : Nat) : Prop where
  c : HasC V W.heap.size 26 cv
  d : HasC V bd 26 dv
  lo : Below W.heap.size W V
theorem Bx.below {W V V' : World} {cv dv : Array Value} {bd : Nat} (h : Bx W V cv dv bd) (hb : Below V.heap.size V V') : Bx W V' cv dv bd := ⟨h.c.below hb, h.d.below hb, bel h.lo hb⟩
/-- What Prune answers of the longer code, and Verify. -/
theorem behind_ends {f d out : Int} {L M : List In} (h0 : vfE f d L out = 0) (h : vfE f d (L ++ M) out = 0) : prN (L ++ M) out = prN L out ∧ prO (L ++ M) out = prO L out := pr_behind (pc_of (Vfy.vf_parts h0).1) (pc_of (Vfy.vf_parts h).1)
theorem gm_yes {D : List In} {a : Nat} {n : In} (h : a < D.length) (h1 : n.op = (D.getD a i0).op) (h2 : n.k = (D.getD a i0).k) (h3 : n.s = (D.getD a i0).s) : gmS D a n = a + 1 := by
  unfold gmS kyI; rw [if_pos ⟨h, by rw [h1, h2, h3]⟩]
theorem gm_no {D : List In} {a : Nat} {n : In} (h : n.op ≠ (D.getD a i0).op ∨ n.k ≠ (D.getD a i0).k ∨ n.s ≠ (D.getD a i0).s) : gmS D a n = a := by
  unfold gmS kyI
  rw [if_neg]
  rintro ⟨-, h2⟩
  simp only [Prod.mk.injEq] at h2
  obtain ⟨e1, e2, e3⟩ := h2
  rcases h with h | h | h
  · exact h e1
  · exact h e2
  · exact h e3

set_option maxRecDepth 100000 in
set_option maxHeartbeats 32000000 in
theorem pbehind_walk (f d out : Int) {a ma : Option Addr} {n cap mn mc : Nat} {L M : List In} {W : World} (hL : Ins W a n cap L) (hM : Ins W ma mn mc M) (hsn : n ≤ 2932031007317) (hsm : mn ≤ 2932031007317) :
    Calls Try.prog 5 #[.agg (cd f d a n cap out), .slice ma mn mc] W fun e w' => e = .returned (.bool true) ∧ Below W.heap.size W w' := by
  have HA := hide fun V => pawake_any V
  have hb1 := bel1 W (.cells (cd f d a n cap out) 26)
  have HB0 := hide hb1
  have HC0 := hide (HasC.new W 26 (cd f d a n cap out))
  have HLI := hide hL
  have HMI := hide hM
  have HLl := hide hL.len
  have HMl := hide hM.len
  by_cases h0 : vfE f d L out = 0
  · have hv := pr_taken h0
    have hP := pc_of (Vfy.vf_parts h0).1
    obtain ⟨l, hl⟩ : ∃ l, (prN L out).length = l := ⟨_, rfl⟩
    have ml := (Cde.mc_parts (Vfy.vf_parts hv).1).2.2.1
    rw [hl] at ml
    obtain ⟨-, m1, m2, o0, o1, -⟩ := Cde.mc_parts (Vfy.vf_parts h0).1
    rw [hL.len] at m1 m2 o1
    obtain ⟨b, off, rfl, -, -⟩ := hL.at (by omega)
    have hl1 : 1 ≤ l := by have := hP.last.2.1; rw [← prN_len, hl] at this; exact this
    have HFo := hide (pprune_ok f d out (hL.later hb1) h0 hl)
    have HVx := hide fun V a1 c1 (h : Ins V a1 (n + mn) c1 (L ++ M)) => Vfy.yverify_any f d out h
    unfold Vfy.VfP at HVx
    have hFy := fun V a1 c1 (h : Ins V a1 (n + mn) c1 (L ++ M)) (hv : vfE f d (L ++ M) out = 0) => pprune_ok f d out h hv (m := l) (by rw [(behind_ends h0 hv).1, hl])
    have HFy := hide fun V a1 c1 (h : Ins V a1 (n + mn) c1 (L ++ M)) (hv : vfE f d (L ++ M) out = 0) => (behind_ends h0 hv).1 ▸ (behind_ends h0 hv).2 ▸ hFy V a1 c1 h hv
    have HFn := hide fun V a1 c1 (h : Ins V a1 (n + mn) c1 (L ++ M)) (er : Int) (her : vfE f d (L ++ M) out = er) (hne : er ≠ 0) => pprune_no f d out h her hne
    have HSm := hide fun V a1 c1 a2 c2 (h1 : Ins V a2 l c2 (prN L out)) (h2 : Ins V a1 l c1 (prN L out)) => Cde.csame_any f d (prO L out) f d (prO L out) h1 h2
    rw [show Cde.sameB f d (prO L out) (prN L out) f d (prO L out) (prN L out) = true by simp [Cde.sameB]] at HSm
    have HGs := hide fun k (hk : k < n) => gmK_succ (D := prN L out) (L := L) (k := k) (by rw [hL.len]; exact hk)
    have HGl := hide fun k => gmK_le (prN L out) L k
    have hge := gmK_end L out
    rw [hL.len, hl] at hge
    rw [hl] at HGl
    have HGe := hide hge
    have HIl := hide hl
    have HNL : Hid ((some ⟨b, off, none⟩ : Option Addr) = none → n = 0 ∧ cap = 0) := hide fun h => by have h1 := hL.nil h; have h2 := hL.le; omega
    have HNM : Hid (ma = none → mn = 0 ∧ mc = 0) := hide fun h => by have h1 := hM.nil h; have h2 := hM.le; omega
    have HG0 : Hid (gmK (prN L out) L 0 = 0) := hide rfl
    clear hv hP hl hge hFy h0 hb1 hL hM
    generalize prN L out = I at *
    generalize prO L out = u at *
    go_enter Try.func5, Try.ntmps5
    go_wp2_with fail
    refine HFo.out.mono ?_
    rintro e V1 ⟨a1, c1, rfl, hO, hb⟩
    have hb2 := bel1 V1 (.cells (cd f d a1 l c1 u) 26)
    have HQ1 : Hid (Bx W (V1.alloc (.cells (cd f d a1 l c1 u) 26)) (cd f d (some ⟨b, off, none⟩) n cap out) (cd f d a1 l c1 u) V1.heap.size) := hide ⟨(HC0.out.below hb).below hb2, HasC.new _ _ _, bel (bel HB0.out hb) hb2⟩
    obtain ⟨a1', c1', e', hI0, -⟩ := Ins.of_owns hO
    cases e'
    obtain ⟨b1, o1', rfl, -, -⟩ := hI0.at (by omega)
    have HI1 := hide (hI0.later hb2)
    clear hb hb2 HFo HB0 HC0 hO hI0
    go_wp2_with fail
    obtain ⟨bd, hbd⟩ : ∃ bd, V1.heap.size = bd := ⟨_, rfl⟩
    obtain ⟨V2, hV2⟩ : ∃ V2, V1.alloc (.cells (cd f d (some ⟨b1, o1', none⟩) l c1 u) 26) = V2 := ⟨_, rfl⟩
    rw [hV2] at HQ1 HI1 ⊢
    rw [hbd] at HQ1 ⊢
    clear hV2 hbd
    refine (HA.out _).mono ?_
    rintro e V ⟨rfl, hb⟩
    have HQ := hide (HQ1.out.below hb)
    have HI := hide (HI1.out.later hb)
    clear hb HQ1 HI1 HA
    go_wp2_with fail
    have HL := hide (HLI.out.later HQ.out.lo)
    have HM := hide (HMI.out.later HQ.out.lo)
    have HC := hide HQ.out.c
    obtain ⟨iN, hiN, hzN0, hzN1, hzN2⟩ := Ytbingoelpeoimaa.Spn.info_parts infoI
    have HIN := hide (And.intro hiN (And.intro hzN0 (And.intro hzN1 hzN2)))
    clear hiN hzN0 hzN1 hzN2
    generalize hcb : W.heap.size = cb at HC ⊢
    refine wp_flags3 mixedF (ord_of (by kernel_rfl)) (fun a0 q A w => ∃ y0 y1 y2 y3 y4 y5 y6 y7 y8 y9 y10 y11, A = ⟨((((((((((((a0.tmps.setIfInBounds 26 y0).setIfInBounds 27 y1).setIfInBounds 28 y2).setIfInBounds 29 y3).setIfInBounds 30 y4).setIfInBounds 31 y5).setIfInBounds 32 y6).setIfInBounds 33 y7).setIfInBounds 34 y8).setIfInBounds 35 y9).setIfInBounds 36 y10).setIfInBounds 7 y11), a0.defers⟩ ∧ Bq V cb f d out (some ⟨b, off, none⟩) n cap ma mn mc L M q y0 y1 y2 y3 y4 y5 y6 y7 y8 y9 y10 y11 w) ?_ ?_ ?_
    · simp only [List.setIfInBounds_toArray, List.set_cons_succ, List.set_cons_zero]
      refine ⟨_, _, _, _, _, _, _, _, _, _, _, _, rfl, below_drew V, ?_, ?_, ?_, ?_, ?_, ?_, ?_, ?_, ?_, ?_, ?_, ?_, ?_, ?_⟩
      all_goals first | (intro h; cases h; done) | (intro h _; cases h; done)
    · rintro q A w i op ⟨y0, y1, y2, y3, y4, y5, y6, y7, y8, y9, y10, y11, rfl, C⟩ hdi ho haft Q' hk'
      simp only [List.setIfInBounds_toArray, List.set_cons_succ, List.set_cons_zero] at hk' ⊢
      have HK := hide hk'
      clear hk'
      have hi : i < 13 := (Array.getElem?_eq_some_iff.1 ho).1
      match i, hi with
    | 0, _ =>
      obtain rfl := (Option.some.inj ho)
      clear haft ho
      have C := hide C
      go_wp2
      have C := C.out
      exact HK.out _ _ ⟨_, y1, y2, y3, y4, y5, y6, y7, y8, y9, y10, y11, rfl, ⟨C.bel, (fun _ => rfl), C.f1, C.f2, C.f3, C.f4, C.f5, C.f6, (fun h => ⟨or_t (C.f7 h).1, (C.f7 h).2⟩), C.f8, C.f9, (fun h => ⟨or_t (C.f10 h).1, (C.f10 h).2⟩), C.f11, (fun h => ⟨or_t (C.f12 h).1, (C.f12 h).2⟩), (fun h => or_t (C.f13 h))⟩⟩
    | 1, _ =>
      obtain rfl := (Option.some.inj ho)
      have g0 : q 0 = true := haft ⟨0, .data⟩ (by simp) rfl
      clear haft ho
      have e1 := C.f0 g0
      subst e1
      obtain ⟨q0, q1, q2, q3⟩ := four_of (HC.out.below C.bel)
      have C := hide C
      go_wp2
      have C := C.out
      exact HK.out _ _ ⟨_, _, y2, y3, y4, y5, y6, y7, y8, y9, y10, y11, rfl, ⟨C.bel, C.f0, (fun _ => rfl), C.f2, C.f3, C.f4, C.f5, C.f6, (fun h => ⟨or_t (C.f7 h).1, (C.f7 h).2⟩), C.f8, C.f9, (fun h => ⟨or_t (C.f10 h).1, (C.f10 h).2⟩), C.f11, (fun h => ⟨or_t (C.f12 h).1, (C.f12 h).2⟩), (fun h => or_t (C.f13 h))⟩⟩
    | 2, _ =>
      obtain rfl := (Option.some.inj ho)
      clear haft ho
      have C := hide C
      go_wp2
      have C := C.out
      have hb : Below V.heap.size V (w.alloc (.cells #[] 48)) := C.bel.alloc C.bel.size _
      exact HK.out _ _ ⟨y0, y1, _, y3, y4, y5, y6, y7, y8, y9, y10, y11, rfl, ⟨hb, C.f0, C.f1, (fun _ _ => ⟨_, rfl, HasC.new w 48 #[], C.bel.size⟩), C.f3, C.f4, (fun h h2 => (C.f5 h h2).alloc _), C.f6, (fun h => ⟨or_t (C.f7 h).1, (C.f7 h).2.alloc _⟩), C.f8, C.f9, (fun h => ⟨or_t (C.f10 h).1, (C.f10 h).2⟩), (fun h h2 => by obtain ⟨g, e, hc, hg⟩ := C.f11 h h2; exact ⟨g, e, hc.alloc _, hg⟩), (fun h => ⟨or_t (C.f12 h).1, by obtain ⟨g, e, hc⟩ := (C.f12 h).2; exact ⟨g, e, hc.alloc _⟩⟩), (fun h => or_t (C.f13 h))⟩⟩
    | 3, _ =>
      obtain rfl := (Option.some.inj ho)
      clear haft ho
      have C := hide C
      go_wp2
      have C := C.out
      exact HK.out _ _ ⟨y0, y1, y2, _, y4, y5, y6, y7, y8, y9, y10, y11, rfl, ⟨C.bel, C.f0, C.f1, C.f2, (fun _ => rfl), C.f4, C.f5, C.f6, (fun h => ⟨or_t (C.f7 h).1, (C.f7 h).2⟩), C.f8, C.f9, (fun h => ⟨or_t (C.f10 h).1, (C.f10 h).2⟩), C.f11, (fun h => ⟨or_t (C.f12 h).1, (C.f12 h).2⟩), (fun h => or_t (C.f13 h))⟩⟩
    | 4, _ =>
      obtain rfl := (Option.some.inj ho)
      have g3 : q 3 = true := haft ⟨3, .data⟩ (by simp) rfl
      clear haft ho
      have e1 := C.f3 g3
      subst e1
      obtain ⟨q0, q1, q2, q3⟩ := four_of (HC.out.below C.bel)
      have C := hide C
      go_wp2
      have C := C.out
      exact HK.out _ _ ⟨y0, y1, y2, _, _, y5, y6, y7, y8, y9, y10, y11, rfl, ⟨C.bel, C.f0, C.f1, C.f2, C.f3, (fun _ => rfl), C.f5, C.f6, (fun h => ⟨or_t (C.f7 h).1, (C.f7 h).2⟩), C.f8, C.f9, (fun h => ⟨or_t (C.f10 h).1, (C.f10 h).2⟩), C.f11, (fun h => ⟨or_t (C.f12 h).1, (C.f12 h).2⟩), (fun h => or_t (C.f13 h))⟩⟩
    | 5, _ =>
      obtain rfl := (Option.some.inj ho)
      have g2 : q 2 = true := haft ⟨2, .data⟩ (by simp) rfl
      have g4 : q 4 = true := haft ⟨4, .data⟩ (by simp) rfl
      clear haft ho
      obtain ⟨g0, e1, hE, hg0⟩ := C.f2 g2 hdi
      have e2 := C.f4 g4
      subst e1 e2
      have hO := Cde.own_empty hE hg0
      refine Cde.append_row w rfl (.tmp 28) (.tmp 30) 24 rfl V.heap.size 48 _ _ 6 48 Try.underlying24 HIN.out.1 HIN.out.2.1 HIN.out.2.2.1 HIN.out.2.2.2 rfl (by omega) _ rfl hO _ n cap (is6 L) rfl (by rw [Cde.is6_len, HLl.out]) HNL.out (HL.out.later C.bel).news (Cde.is6_one L) (by unfold maxLen; omega) (by omega) C.bel.size ?_
      intro v' w' hown hgrow
      have hb : Below V.heap.size V w' := C.bel.grown hgrow C.bel.size fun k hk => (Cde.owns_block hO k hk).1
      exact HK.out _ _ ⟨y0, y1, _, y3, _, _, y6, y7, y8, y9, y10, y11, rfl, ⟨hb, C.f0, C.f1, (fun _ h => by cases h), C.f3, C.f4, (fun _ _ => hown), C.f6, (fun h => by have h2 := (C.f7 h).1; rw [hdi] at h2; cases h2), C.f8, C.f9, (fun h => by have h2 := (C.f7 (C.f10 h).1).1; rw [hdi] at h2; cases h2), (fun h h2 => by obtain ⟨g2, e2, hc, hg2⟩ := C.f11 h h2; exact ⟨g2, e2, Cde.has_own hc hO hgrow (by decide), hg2⟩), (fun h => by have h2 := (C.f7 (C.f12 h).1).1; rw [hdi] at h2; cases h2), (fun h => or_t (C.f13 h))⟩⟩
    | 6, _ =>
      obtain rfl := (Option.some.inj ho)
      clear haft ho
      have C := hide C
      go_wp2
      have C := C.out
      exact HK.out _ _ ⟨y0, y1, y2, y3, y4, y5, _, y7, y8, y9, y10, y11, rfl, ⟨C.bel, C.f0, C.f1, C.f2, C.f3, C.f4, C.f5, (fun _ => rfl), (fun h => ⟨or_t (C.f7 h).1, (C.f7 h).2⟩), C.f8, C.f9, (fun h => ⟨or_t (C.f10 h).1, (C.f10 h).2⟩), C.f11, (fun h => ⟨or_t (C.f12 h).1, (C.f12 h).2⟩), (fun h => or_t (C.f13 h))⟩⟩
    | 7, _ =>
      obtain rfl := (Option.some.inj ho)
      have g5 : q 5 = true := haft ⟨5, .data⟩ (by simp) rfl
      have g6 : q 6 = true := haft ⟨6, .data⟩ (by simp) rfl
      clear haft ho
      have hO := C.f5 g5 hdi
      have e2 := C.f6 g6
      subst e2
      obtain ⟨go, co, e5⟩ : ∃ go co, y5 = .slice (some ⟨go, 0, none⟩) n co := by
        rcases hO.2 with ⟨-, he⟩ | ⟨g', c', cur, he, -⟩
        · omega
        · exact ⟨g', c', he⟩
      subst e5
      refine append_far w rfl (.tmp 31) (.tmp 32) 24 rfl V.heap.size 48 _ _ Try.underlying24 HIN.out.1 HIN.out.2.1 (by rw [HIN.out.2.2.1]; rfl) go n co (is6 L) rfl (by rw [HIN.out.2.2.1]; exact hO) ma mn mc (is6 M) rfl (by rw [Cde.is6_len, HMl.out, HIN.out.2.2.1]) HNM.out (HM.out.later C.bel).news (Cde.is6_one M) (by unfold maxLen; omega) (by rw [HIN.out.2.2.2]; omega) C.bel.size ?_
      rw [HIN.out.2.2.1, ← is6_app]
      intro g' c' w' hown hgrow
      have hb : Below V.heap.size V w' := C.bel.grown hgrow C.bel.size fun k hk => (Cde.owns_block hO k hk).1
      exact HK.out _ _ ⟨y0, y1, y2, y3, y4, _, _, _, y8, y9, y10, y11, rfl, ⟨hb, C.f0, C.f1, (fun _ h => by have h2 : q 5 = false := h; rw [g5] at h2; cases h2), C.f3, C.f4, (fun _ h => by cases h), C.f6, (fun _ => ⟨or_t g5, hown⟩), C.f8, C.f9, (fun h => by have h2 := (C.f10 h).1; rw [hdi] at h2; cases h2), (fun h h2 => by obtain ⟨g2, e2, hc, hg2⟩ := C.f11 h h2; exact ⟨g2, e2, Cde.has_own hc hO hgrow (by decide), hg2⟩), (fun h => by have h2 := (C.f12 h).1; rw [hdi] at h2; cases h2), (fun h => or_t (C.f13 h))⟩⟩
    | 8, _ =>
      obtain rfl := (Option.some.inj ho)
      clear haft ho
      have C := hide C
      go_wp2
      have C := C.out
      exact HK.out _ _ ⟨y0, y1, y2, y3, y4, y5, y6, y7, _, y9, y10, y11, rfl, ⟨C.bel, C.f0, C.f1, C.f2, C.f3, C.f4, C.f5, C.f6, (fun h => ⟨or_t (C.f7 h).1, (C.f7 h).2⟩), (fun _ => rfl), C.f9, (fun h => ⟨or_t (C.f10 h).1, (C.f10 h).2⟩), C.f11, (fun h => ⟨or_t (C.f12 h).1, (C.f12 h).2⟩), (fun h => or_t (C.f13 h))⟩⟩
    | 9, _ =>
      obtain rfl := (Option.some.inj ho)
      have g8 : q 8 = true := haft ⟨8, .data⟩ (by simp) rfl
      clear haft ho
      have e1 := C.f8 g8
      subst e1
      obtain ⟨q0, q1, q2, q3⟩ := four_of (HC.out.below C.bel)
      have C := hide C
      go_wp2
      have C := C.out
      exact HK.out _ _ ⟨y0, y1, y2, y3, y4, y5, y6, y7, _, _, y10, y11, rfl, ⟨C.bel, C.f0, C.f1, C.f2, C.f3, C.f4, C.f5, C.f6, (fun h => ⟨or_t (C.f7 h).1, (C.f7 h).2⟩), C.f8, (fun _ => rfl), (fun h => ⟨or_t (C.f10 h).1, (C.f10 h).2⟩), C.f11, (fun h => ⟨or_t (C.f12 h).1, (C.f12 h).2⟩), (fun h => or_t (C.f13 h))⟩⟩
    | 10, _ =>
      obtain rfl := (Option.some.inj ho)
      have g1 : q 1 = true := haft ⟨1, .data⟩ (by simp) rfl
      have g7 : q 7 = true := haft ⟨7, .data⟩ (by simp) rfl
      have g9 : q 9 = true := haft ⟨9, .data⟩ (by simp) rfl
      clear haft ho
      have e1 := C.f1 g1
      have e9 := C.f9 g9
      obtain ⟨a7, c7, e7, -, -⟩ := Ins.of_owns (C.f7 g7).2
      subst e1 e9 e7
      have C := hide C
      go_wp2
      have C := C.out
      exact HK.out _ _ ⟨y0, _, y2, y3, y4, y5, y6, _, y8, _, _, y11, rfl, ⟨C.bel, C.f0, C.f1, C.f2, C.f3, C.f4, C.f5, C.f6, (fun h => ⟨or_t (C.f7 h).1, (C.f7 h).2⟩), C.f8, C.f9, (fun _ => ⟨or_t g7, rfl⟩), C.f11, (fun h => ⟨or_t (C.f12 h).1, (C.f12 h).2⟩), (fun h => or_t (C.f13 h))⟩⟩
    | 11, _ =>
      obtain rfl := (Option.some.inj ho)
      clear haft ho
      have C := hide C
      go_wp2
      have C := C.out
      have hb : Below V.heap.size V (w.alloc (.cells cdz 26)) := C.bel.alloc C.bel.size _
      exact HK.out _ _ ⟨y0, y1, y2, y3, y4, y5, y6, y7, y8, y9, y10, _, rfl, ⟨hb, C.f0, C.f1, (fun h h2 => by obtain ⟨g, e, hc, hg⟩ := C.f2 h h2; exact ⟨g, e, hc.alloc _, hg⟩), C.f3, C.f4, (fun h h2 => (C.f5 h h2).alloc _), C.f6, (fun h => ⟨or_t (C.f7 h).1, (C.f7 h).2.alloc _⟩), C.f8, C.f9, (fun h => ⟨or_t (C.f10 h).1, (C.f10 h).2⟩), (fun _ _ => ⟨_, rfl, HasC.new w 26 cdz, C.bel.size⟩), (fun h => by have h2 := C.f13 h; rw [hdi] at h2; cases h2), (fun _ => rfl)⟩⟩
    | 12, _ =>
      obtain rfl := (Option.some.inj ho)
      have g11 : q 11 = true := haft ⟨11, .data⟩ (by simp) rfl
      have g10 : q 10 = true := haft ⟨10, .data⟩ (by simp) rfl
      clear haft ho
      obtain ⟨g7, e10⟩ := C.f10 g10
      obtain ⟨g5, hO7⟩ := C.f7 g7
      obtain ⟨a7, c7, e7, -, -⟩ := Ins.of_owns hO7
      obtain ⟨g, e11, hx, hg⟩ := C.f11 g11 hdi
      subst e11 e7 e10
      obtain ⟨q0, q1, q2, q3⟩ := four_of hx
      obtain ⟨s0, s1, s2, s3⟩ := four_fr hx
      have HX := hide hx
      clear hx
      have C := hide C
      go_wp2
      have C := C.out
      have hO := s4_own hO7 (own_ne hO7 HX.out (by decide)) (.int .i64 f) (.int .i64 d) (.slice a7 (n + mn) c7) (.int .i64 out)
      have h4 := (((HX.out.set 0 (.int .i64 f)).set 1 (.int .i64 d)).set 2 (.slice a7 (n + mn) c7)).set 3 (.int .i64 out)
      have hb := (((C.bel.setCell (p := ⟨g, 0, none⟩) (by simpa using hg) (.int .i64 f)).setCell (p := ⟨g, 1, none⟩) (by simpa using hg) (.int .i64 d)).setCell (p := ⟨g, 2, none⟩) (by simpa using hg) (.slice a7 (n + mn) c7)).setCell (p := ⟨g, 3, none⟩) (by simpa using hg) (.int .i64 out)
      exact HK.out _ _ ⟨y0, y1, y2, y3, y4, y5, y6, _, y8, y9, _, _, rfl, ⟨hb, C.f0, C.f1, (fun _ h => by have h2 : q 5 = false := h; rw [g5] at h2; cases h2), C.f3, C.f4, (fun _ h => by have h2 : q 7 = false := h; rw [g7] at h2; cases h2), C.f6, (fun _ => ⟨or_t g5, hO⟩), C.f8, C.f9, (fun _ => ⟨or_t g7, rfl⟩), (fun _ h => by cases h), (fun _ => ⟨or_t g7, _, rfl, h4⟩), (fun _ => or_t g11)⟩⟩
    rintro q A V3 ⟨y0, y1, y2, y3, y4, y5, y6, y7, y8, y9, y10, y11, rfl, C⟩ hall
    simp only [List.setIfInBounds_toArray, List.set_cons_succ, List.set_cons_zero]
    have D : ∀ i, i < 13 → q i = true := hall
    obtain ⟨-, bx, e11, hX⟩ := C.f12 (D 12 (by omega))
    have hO := (C.f7 (D 7 (by omega))).2
    obtain ⟨ax, cx, e7, hIx, -⟩ := Ins.of_owns hO
    subst e7 e11
    have HX := hide hX
    have HIx := hide hIx
    have HQ3 := hide (HQ.out.below C.bel)
    have HI3 := hide (HI.out.later C.bel)
    subst hcb
    clear hX hIx hO D hall C HQ HI HL HM HC HIN HNL HNM
    obtain ⟨x0, x1, x2, x3⟩ := four_of HX.out
    obtain ⟨er, her⟩ : ∃ er, vfE f d (L ++ M) out = er := ⟨_, rfl⟩
    rw [her] at HVx
    generalize vfN f d (L ++ M) out = vm at *
    generalize vfC f d (L ++ M) out = vc at *
    generalize Vfy.vfS f d (L ++ M) out = vs at *
    by_cases h0 : er = 0
    · subst h0
      have HP := hide (HFy.out V3 _ _ HIx.out her)
      clear her HFy HFn
      go_wp2_with fail
      refine HP.out.mono ?_
      rintro e V4 ⟨a2, c2, rfl, hO, hb⟩
      have hb2 := bel1 V4 (.cells (cd f d a2 l c2 u) 26)
      have HQ4 := hide ((HQ3.out.below hb).below hb2)
      have HI4 := hide ((HI3.out.later hb).later hb2)
      have HIx4 := hide ((HIx.out.later hb).later hb2)
      have HY4 := hide (HasC.new V4 26 (cd f d a2 l c2 u))
      obtain ⟨a2', c2', e', hI0, -⟩ := Ins.of_owns hO
      cases e'
      have HJ4 := hide (hI0.later hb2)
      clear x0 x1 x2 x3
      obtain ⟨x0, x1, x2, x3⟩ := four_of (HX.out.below hb)
      have z0 := (HX.out.below hb).lt
      clear hb hb2 hO hI0 HQ3 HI3 HIx HP HX
      go_wp2_with fail
      refine (HVx.out _ _ _ HIx4.out).mono ?_
      rintro e V5 ⟨ga, gc, rfl, hS, hb, -, -⟩
      have hb2 := bel1 V5 (.cells #[.slice ga vm gc, .int .i64 vc, .int .i64 0] 35)
      have HQ5 := hide ((HQ4.out.below hb).below hb2)
      have HI5 := hide ((HI4.out.later hb).later hb2)
      have HY5 := hide ((HY4.out.below hb).below hb2)
      have HJ5 := hide ((HJ4.out.later hb).later hb2)
      generalize V4.heap.size = by' at *
      clear hb hb2 hS HQ4 HI4 HIx4 HY4 HJ4 HVx x0 x1 x2 x3 z0
      go_upto_region 7 with fail
      obtain ⟨V6, hV6⟩ : ∃ V6, V5.alloc (.cells #[.slice ga vm gc, .int .i64 vc, .int .i64 0] 35) = V6 := ⟨_, rfl⟩
      rw [hV6] at HQ5 HI5 HY5 HJ5 ⊢
      clear hV6
      obtain ⟨x0, x1, x2, x3⟩ := four_of HY5.out
      obtain ⟨y0, y1, y2, y3⟩ := four_of HQ5.out.d
      go_wp2_with fail
      refine (HSm.out _ _ _ _ _ HJ5.out HI5.out).mono ?_
      rintro e V7 ⟨rfl, hb⟩
      have HQ7 := hide (HQ5.out.below hb)
      have HI7 := hide (HI5.out.later hb)
      clear hb HQ5 HI5 HY5 HJ5 HSm x0 x1 x2 x3 y0 y1 y2 y3
      go_wp2_with fail
      go_loopw [12, 13] (fun av iv wr => ∃ k : Nat, k ≤ n ∧ iv = .int .i64 k ∧ av = .int .i64 ((gmK I L k : Nat) : Int) ∧ Hid (Bx W wr (cd f d (some ⟨b, off, none⟩) n cap out) (cd f d (some ⟨b1, o1', none⟩) l c1 u) bd) ∧ Hid (Ins wr (some ⟨b1, o1', none⟩) l c1 I)) (fun _ iv _ => n - (intOf iv).toNat)
      case atStart => exact ⟨0, Nat.zero_le _, rfl, by rw [HG0.out]; rfl, HQ7, HI7⟩
      case round =>
        obtain ⟨k, hk, rfl, rfl, HQ, HI⟩ := hrel
        rename World => V
        clear HQ7 HI7
        obtain ⟨ia', hat⟩ : ∃ x, gmK I L k = x := ⟨_, rfl⟩
        have hle := HGl.out k
        rw [hat] at hle ⊢
        obtain ⟨x0, x1, x2, x3⟩ := four_of HQ.out.c
        obtain ⟨y0, y1, y2, y3⟩ := four_of HQ.out.d
        by_cases hlt : k < n
        · by_cases hla : ia' < l
          · obtain ⟨e0, e1, e2, e3, e4, e5⟩ := ins_cells (HLI.out.later HQ.out.lo) k hlt
            obtain ⟨d0, d1, d2, d3, d4, d5⟩ := ins_cells HI.out ia' hla
            have hs := HGs.out k hlt
            rw [hat] at hs
            generalize L.getD k i0 = m at *
            generalize hdm : I.getD ia' i0 = dm at *
            have s0 : (0 : Int) ≤ k := by omega
            have s1 : (k : Int) < n := by omega
            have s2 : (0 : Int) ≤ ia' := by omega
            have s3 : (ia' : Int) < l := by omega
            have s4 : decide (k < n) = true := by simpa using hlt
            have s5 : decide (ia' < l) = true := by simpa using hla
            clear hat hle
            rcases (show m.op ≠ dm.op ∨ (m.op = dm.op ∧ m.k ≠ dm.k) ∨ (m.op = dm.op ∧ m.k = dm.k ∧ m.s ≠ dm.s) ∨ (m.op = dm.op ∧ m.k = dm.k ∧ m.s = dm.s) by
              by_cases p1 : m.op = dm.op <;> by_cases p2 : m.k = dm.k <;> by_cases p3 : m.s = dm.s <;> simp_all) with hq1 | ⟨hq1, hq2⟩ | ⟨hq1, hq2, hq3⟩ | ⟨hq1, hq2, hq3⟩
            · skip
              have b1 : (m.op == dm.op) = false := by simpa using hq1
              have HS := hide (hs.trans (gm_no (.inl (by rw [hdm]; exact hq1))))
              clear hs hq1 hdm
              have q2 := cell_regrown x2
              have q5 := cell_regrown y2
              have r0 := cell_regrown e0
              have r4 := cell_regrown e4
              have r5 := cell_regrown e5
              have t0 := cell_regrown d0
              have t4 := cell_regrown d4
              have t5 := cell_regrown d5
              go_wp2_with fail
              refine wp_region_quiet_below mixedF (by kernel_rfl) ?_
              repeat (go_big_quiet_step (fail))
              refine wpQuiet_nil ?_
              intro V6 hw'
              obtain ⟨⟨dq, osq⟩, hw''⟩ := hw'
              have hb := below_regrown V dq osq
              simp only at hw''
              rw [← hw''] at hb
              have HQ6 := hide (HQ.out.below hb)
              have HI6 := hide (HI.out.later hb)
              clear hw'' hb q2 q5 r0 r4 r5 t0 t4 t5 x0 x1 x2 x3 y0 y1 y2 y3 e0 e1 e2 e3 e4 e5 d0 d1 d2 d3 d4 d5 HQ HI b1
              go_wp2_with fail
              go_roundw
              case rel => exact ⟨k + 1, by omega, by go_num, by (rw [HS.out]; try go_num), HQ6, HI6⟩
              case measure => (simp [intOf]; try omega)
            · skip
              have b1 : (m.op == dm.op) = true := by simpa using hq1
              have b2 : (m.k == dm.k) = false := by simpa using hq2
              have HS := hide (hs.trans (gm_no (.inr (.inl (by rw [hdm]; exact hq2)))))
              clear hs hq1 hq2 hdm
              have q2 := cell_regrown x2
              have q5 := cell_regrown y2
              have r0 := cell_regrown e0
              have r4 := cell_regrown e4
              have r5 := cell_regrown e5
              have t0 := cell_regrown d0
              have t4 := cell_regrown d4
              have t5 := cell_regrown d5
              go_wp2_with fail
              refine wp_region_quiet_below mixedF (by kernel_rfl) ?_
              repeat (go_big_quiet_step (fail))
              refine wpQuiet_nil ?_
              intro V6 hw'
              obtain ⟨⟨dq, osq⟩, hw''⟩ := hw'
              have hb := below_regrown V dq osq
              simp only at hw''
              rw [← hw''] at hb
              have HQ6 := hide (HQ.out.below hb)
              have HI6 := hide (HI.out.later hb)
              clear hw'' hb q2 q5 r0 r4 r5 t0 t4 t5 x0 x1 x2 x3 y0 y1 y2 y3 e0 e1 e2 e3 e4 e5 d0 d1 d2 d3 d4 d5 HQ HI b1 b2
              go_wp2_with fail
              go_roundw
              case rel => exact ⟨k + 1, by omega, by go_num, by (rw [HS.out]; try go_num), HQ6, HI6⟩
              case measure => (simp [intOf]; try omega)
            · skip
              have b1 : (m.op == dm.op) = true := by simpa using hq1
              have b2 : (m.k == dm.k) = true := by simpa using hq2
              have b3 : (m.s == dm.s) = false := by simpa using hq3
              have HS := hide (hs.trans (gm_no (.inr (.inr (by rw [hdm]; exact hq3)))))
              clear hs hq1 hq2 hq3 hdm
              have q2 := cell_regrown x2
              have q5 := cell_regrown y2
              have r0 := cell_regrown e0
              have r4 := cell_regrown e4
              have r5 := cell_regrown e5
              have t0 := cell_regrown d0
              have t4 := cell_regrown d4
              have t5 := cell_regrown d5
              go_wp2_with fail
              refine wp_region_quiet_below mixedF (by kernel_rfl) ?_
              repeat (go_big_quiet_step (fail))
              refine wpQuiet_nil ?_
              intro V6 hw'
              obtain ⟨⟨dq, osq⟩, hw''⟩ := hw'
              have hb := below_regrown V dq osq
              simp only at hw''
              rw [← hw''] at hb
              have HQ6 := hide (HQ.out.below hb)
              have HI6 := hide (HI.out.later hb)
              clear hw'' hb q2 q5 r0 r4 r5 t0 t4 t5 x0 x1 x2 x3 y0 y1 y2 y3 e0 e1 e2 e3 e4 e5 d0 d1 d2 d3 d4 d5 HQ HI b1 b2 b3
              go_wp2_with fail
              go_roundw
              case rel => exact ⟨k + 1, by omega, by go_num, by (rw [HS.out]; try go_num), HQ6, HI6⟩
              case measure => (simp [intOf]; try omega)
            · skip
              have b1 : (m.op == dm.op) = true := by simpa using hq1
              have b2 : (m.k == dm.k) = true := by simpa using hq2
              have b3 : (m.s == dm.s) = true := by simpa using hq3
              have HS := hide (hs.trans (gm_yes (by rw [HIl.out]; exact hla) (by rw [hdm]; exact hq1) (by rw [hdm]; exact hq2) (by rw [hdm]; exact hq3)))
              clear hs hq1 hq2 hq3 hdm
              have q2 := cell_regrown x2
              have q5 := cell_regrown y2
              have r0 := cell_regrown e0
              have r4 := cell_regrown e4
              have r5 := cell_regrown e5
              have t0 := cell_regrown d0
              have t4 := cell_regrown d4
              have t5 := cell_regrown d5
              go_wp2_with fail
              refine wp_region_quiet_below mixedF (by kernel_rfl) ?_
              repeat (go_big_quiet_step (fail))
              refine wpQuiet_nil ?_
              intro V6 hw'
              obtain ⟨⟨dq, osq⟩, hw''⟩ := hw'
              have hb := below_regrown V dq osq
              simp only at hw''
              rw [← hw''] at hb
              have HQ6 := hide (HQ.out.below hb)
              have HI6 := hide (HI.out.later hb)
              clear hw'' hb q2 q5 r0 r4 r5 t0 t4 t5 x0 x1 x2 x3 y0 y1 y2 y3 e0 e1 e2 e3 e4 e5 d0 d1 d2 d3 d4 d5 HQ HI b1 b2 b3
              go_wp2_with fail
              go_roundw
              case rel => exact ⟨k + 1, by omega, by go_num, by (rw [HS.out]; try go_num), HQ6, HI6⟩
              case measure => (simp [intOf]; try omega)
          · obtain rfl : ia' = l := by omega
            have s1 : (k : Int) < n := by omega
            have s4 : decide (k < n) = true := by simpa using hlt
            have s5 : decide (ia' < ia') = false := by simp
            have s6 : decide ((ia' : Int) < (ia' : Int)) = false := by simp
            clear hat hle
            have j7 : (ia' == ia') = true := by simp
            have j8 : ((ia' : Int) == (ia' : Int)) = true := by simp
            have j9 : decide (0 < ia') = true := by simp; omega
            have j10 : decide ((0 : Int) < (ia' : Int)) = true := by simp; omega
            go_wp2_with fail
            go_ret
            exact ⟨rfl, HQ.out.lo⟩
        · obtain rfl : k = n := by omega
          obtain rfl : ia' = l := by rw [← hat]; exact HGe.out
          have s4 : decide (k < k) = false := by simp
          have s6 : decide ((k : Int) < (k : Int)) = false := by simp
          clear hat hle
          have j7 : (ia' == ia') = true := by simp
          have j8 : ((ia' : Int) == (ia' : Int)) = true := by simp
          have j9 : decide (0 < ia') = true := by simp; omega
          have j10 : decide ((0 : Int) < (ia' : Int)) = true := by simp; omega
          go_wp2_with fail
          go_ret
          exact ⟨rfl, HQ.out.lo⟩
    · have HP := hide (HFn.out V3 _ _ HIx.out er her h0)
      have hr : (er == 0) = false := by simpa using h0
      have hr2 : (er != er) = false := by simp
      clear her HFy HFn HSm h0
      go_wp2_with fail
      refine HP.out.mono ?_
      rintro e V4 ⟨a2, c2, rfl, hb⟩
      have hb2 := bel1 V4 (.cells (cd 0 0 a2 0 c2 0) 26)
      have HQ4 := hide ((HQ3.out.below hb).below hb2)
      have HI4 := hide ((HI3.out.later hb).later hb2)
      have HIx4 := hide ((HIx.out.later hb).later hb2)
      clear x0 x1 x2 x3
      obtain ⟨x0, x1, x2, x3⟩ := four_of (HX.out.below hb)
      have z0 := (HX.out.below hb).lt
      clear hb hb2 HQ3 HI3 HIx HP HX
      go_wp2_with fail
      refine (HVx.out _ _ _ HIx4.out).mono ?_
      rintro e V5 ⟨ga, gc, rfl, hS, hb, -, -⟩
      have hb2 := bel1 V5 (.cells #[.slice ga vm gc, .int .i64 vc, .int .i64 0] 35)
      have HQ7 := hide ((HQ4.out.below hb).below hb2)
      have HI7 := hide ((HI4.out.later hb).later hb2)
      generalize V4.heap.size = by' at *
      clear hb hb2 hS HQ4 HI4 HIx4 HVx x0 x1 x2 x3 z0
      go_upto_region 7 with fail
      obtain ⟨V6, hV6⟩ : ∃ V6, V5.alloc (.cells #[.slice ga vm gc, .int .i64 vc, .int .i64 0] 35) = V6 := ⟨_, rfl⟩
      rw [hV6] at HQ7 HI7 ⊢
      clear hV6
      go_wp2_with fail
      go_loopw [12, 13] (fun av iv wr => ∃ k : Nat, k ≤ n ∧ iv = .int .i64 k ∧ av = .int .i64 ((gmK I L k : Nat) : Int) ∧ Hid (Bx W wr (cd f d (some ⟨b, off, none⟩) n cap out) (cd f d (some ⟨b1, o1', none⟩) l c1 u) bd) ∧ Hid (Ins wr (some ⟨b1, o1', none⟩) l c1 I)) (fun _ iv _ => n - (intOf iv).toNat)
      case atStart => exact ⟨0, Nat.zero_le _, rfl, by rw [HG0.out]; rfl, HQ7, HI7⟩
      case round =>
        obtain ⟨k, hk, rfl, rfl, HQ, HI⟩ := hrel
        rename World => V
        clear HQ7 HI7
        obtain ⟨ia', hat⟩ : ∃ x, gmK I L k = x := ⟨_, rfl⟩
        have hle := HGl.out k
        rw [hat] at hle ⊢
        obtain ⟨x0, x1, x2, x3⟩ := four_of HQ.out.c
        obtain ⟨y0, y1, y2, y3⟩ := four_of HQ.out.d
        by_cases hlt : k < n
        · by_cases hla : ia' < l
          · obtain ⟨e0, e1, e2, e3, e4, e5⟩ := ins_cells (HLI.out.later HQ.out.lo) k hlt
            obtain ⟨d0, d1, d2, d3, d4, d5⟩ := ins_cells HI.out ia' hla
            have hs := HGs.out k hlt
            rw [hat] at hs
            generalize L.getD k i0 = m at *
            generalize hdm : I.getD ia' i0 = dm at *
            have s0 : (0 : Int) ≤ k := by omega
            have s1 : (k : Int) < n := by omega
            have s2 : (0 : Int) ≤ ia' := by omega
            have s3 : (ia' : Int) < l := by omega
            have s4 : decide (k < n) = true := by simpa using hlt
            have s5 : decide (ia' < l) = true := by simpa using hla
            clear hat hle
            rcases (show m.op ≠ dm.op ∨ (m.op = dm.op ∧ m.k ≠ dm.k) ∨ (m.op = dm.op ∧ m.k = dm.k ∧ m.s ≠ dm.s) ∨ (m.op = dm.op ∧ m.k = dm.k ∧ m.s = dm.s) by
              by_cases p1 : m.op = dm.op <;> by_cases p2 : m.k = dm.k <;> by_cases p3 : m.s = dm.s <;> simp_all) with hq1 | ⟨hq1, hq2⟩ | ⟨hq1, hq2, hq3⟩ | ⟨hq1, hq2, hq3⟩
            · skip
              have b1 : (m.op == dm.op) = false := by simpa using hq1
              have HS := hide (hs.trans (gm_no (.inl (by rw [hdm]; exact hq1))))
              clear hs hq1 hdm
              have q2 := cell_regrown x2
              have q5 := cell_regrown y2
              have r0 := cell_regrown e0
              have r4 := cell_regrown e4
              have r5 := cell_regrown e5
              have t0 := cell_regrown d0
              have t4 := cell_regrown d4
              have t5 := cell_regrown d5
              go_wp2_with fail
              refine wp_region_quiet_below mixedF (by kernel_rfl) ?_
              repeat (go_big_quiet_step (fail))
              refine wpQuiet_nil ?_
              intro V6 hw'
              obtain ⟨⟨dq, osq⟩, hw''⟩ := hw'
              have hb := below_regrown V dq osq
              simp only at hw''
              rw [← hw''] at hb
              have HQ6 := hide (HQ.out.below hb)
              have HI6 := hide (HI.out.later hb)
              clear hw'' hb q2 q5 r0 r4 r5 t0 t4 t5 x0 x1 x2 x3 y0 y1 y2 y3 e0 e1 e2 e3 e4 e5 d0 d1 d2 d3 d4 d5 HQ HI b1
              go_wp2_with fail
              go_roundw
              case rel => exact ⟨k + 1, by omega, by go_num, by (rw [HS.out]; try go_num), HQ6, HI6⟩
              case measure => (simp [intOf]; try omega)
            · skip
              have b1 : (m.op == dm.op) = true := by simpa using hq1
              have b2 : (m.k == dm.k) = false := by simpa using hq2
              have HS := hide (hs.trans (gm_no (.inr (.inl (by rw [hdm]; exact hq2)))))
              clear hs hq1 hq2 hdm
              have q2 := cell_regrown x2
              have q5 := cell_regrown y2
              have r0 := cell_regrown e0
              have r4 := cell_regrown e4
              have r5 := cell_regrown e5
              have t0 := cell_regrown d0
              have t4 := cell_regrown d4
              have t5 := cell_regrown d5
              go_wp2_with fail
              refine wp_region_quiet_below mixedF (by kernel_rfl) ?_
              repeat (go_big_quiet_step (fail))
              refine wpQuiet_nil ?_
              intro V6 hw'
              obtain ⟨⟨dq, osq⟩, hw''⟩ := hw'
              have hb := below_regrown V dq osq
              simp only at hw''
              rw [← hw''] at hb
              have HQ6 := hide (HQ.out.below hb)
              have HI6 := hide (HI.out.later hb)
              clear hw'' hb q2 q5 r0 r4 r5 t0 t4 t5 x0 x1 x2 x3 y0 y1 y2 y3 e0 e1 e2 e3 e4 e5 d0 d1 d2 d3 d4 d5 HQ HI b1 b2
              go_wp2_with fail
              go_roundw
              case rel => exact ⟨k + 1, by omega, by go_num, by (rw [HS.out]; try go_num), HQ6, HI6⟩
              case measure => (simp [intOf]; try omega)
            · skip
              have b1 : (m.op == dm.op) = true := by simpa using hq1
              have b2 : (m.k == dm.k) = true := by simpa using hq2
              have b3 : (m.s == dm.s) = false := by simpa using hq3
              have HS := hide (hs.trans (gm_no (.inr (.inr (by rw [hdm]; exact hq3)))))
              clear hs hq1 hq2 hq3 hdm
              have q2 := cell_regrown x2
              have q5 := cell_regrown y2
              have r0 := cell_regrown e0
              have r4 := cell_regrown e4
              have r5 := cell_regrown e5
              have t0 := cell_regrown d0
              have t4 := cell_regrown d4
              have t5 := cell_regrown d5
              go_wp2_with fail
              refine wp_region_quiet_below mixedF (by kernel_rfl) ?_
              repeat (go_big_quiet_step (fail))
              refine wpQuiet_nil ?_
              intro V6 hw'
              obtain ⟨⟨dq, osq⟩, hw''⟩ := hw'
              have hb := below_regrown V dq osq
              simp only at hw''
              rw [← hw''] at hb
              have HQ6 := hide (HQ.out.below hb)
              have HI6 := hide (HI.out.later hb)
              clear hw'' hb q2 q5 r0 r4 r5 t0 t4 t5 x0 x1 x2 x3 y0 y1 y2 y3 e0 e1 e2 e3 e4 e5 d0 d1 d2 d3 d4 d5 HQ HI b1 b2 b3
              go_wp2_with fail
              go_roundw
              case rel => exact ⟨k + 1, by omega, by go_num, by (rw [HS.out]; try go_num), HQ6, HI6⟩
              case measure => (simp [intOf]; try omega)
            · skip
              have b1 : (m.op == dm.op) = true := by simpa using hq1
              have b2 : (m.k == dm.k) = true := by simpa using hq2
              have b3 : (m.s == dm.s) = true := by simpa using hq3
              have HS := hide (hs.trans (gm_yes (by rw [HIl.out]; exact hla) (by rw [hdm]; exact hq1) (by rw [hdm]; exact hq2) (by rw [hdm]; exact hq3)))
              clear hs hq1 hq2 hq3 hdm
              have q2 := cell_regrown x2
              have q5 := cell_regrown y2
              have r0 := cell_regrown e0
              have r4 := cell_regrown e4
              have r5 := cell_regrown e5
              have t0 := cell_regrown d0
              have t4 := cell_regrown d4
              have t5 := cell_regrown d5
              go_wp2_with fail
              refine wp_region_quiet_below mixedF (by kernel_rfl) ?_
              repeat (go_big_quiet_step (fail))
              refine wpQuiet_nil ?_
              intro V6 hw'
              obtain ⟨⟨dq, osq⟩, hw''⟩ := hw'
              have hb := below_regrown V dq osq
              simp only at hw''
              rw [← hw''] at hb
              have HQ6 := hide (HQ.out.below hb)
              have HI6 := hide (HI.out.later hb)
              clear hw'' hb q2 q5 r0 r4 r5 t0 t4 t5 x0 x1 x2 x3 y0 y1 y2 y3 e0 e1 e2 e3 e4 e5 d0 d1 d2 d3 d4 d5 HQ HI b1 b2 b3
              go_wp2_with fail
              go_roundw
              case rel => exact ⟨k + 1, by omega, by go_num, by (rw [HS.out]; try go_num), HQ6, HI6⟩
              case measure => (simp [intOf]; try omega)
          · obtain rfl : ia' = l := by omega
            have s1 : (k : Int) < n := by omega
            have s4 : decide (k < n) = true := by simpa using hlt
            have s5 : decide (ia' < ia') = false := by simp
            have s6 : decide ((ia' : Int) < (ia' : Int)) = false := by simp
            clear hat hle
            have j7 : (ia' == ia') = true := by simp
            have j8 : ((ia' : Int) == (ia' : Int)) = true := by simp
            have j9 : decide (0 < ia') = true := by simp; omega
            have j10 : decide ((0 : Int) < (ia' : Int)) = true := by simp; omega
            go_wp2_with fail
            go_ret
            exact ⟨rfl, HQ.out.lo⟩
        · obtain rfl : k = n := by omega
          obtain rfl : ia' = l := by rw [← hat]; exact HGe.out
          have s4 : decide (k < k) = false := by simp
          have s6 : decide ((k : Int) < (k : Int)) = false := by simp
          clear hat hle
          have j7 : (ia' == ia') = true := by simp
          have j8 : ((ia' : Int) == (ia' : Int)) = true := by simp
          have j9 : decide (0 < ia') = true := by simp; omega
          have j10 : decide ((0 : Int) < (ia' : Int)) = true := by simp; omega
          go_wp2_with fail
          go_ret
          exact ⟨rfl, HQ.out.lo⟩
  · obtain ⟨er, her⟩ : ∃ er, vfE f d L out = er := ⟨_, rfl⟩
    rw [her] at h0
    have HFo := hide (pprune_no f d out (hL.later hb1) her h0)
    have hr : (er != 0) = true := by simpa using h0
    clear hb1 hL her h0
    go_enter Try.func5, Try.ntmps5
    go_wp2_with fail
    refine HFo.out.mono ?_
    rintro e V1 ⟨a1, c1, rfl, hb⟩
    have HB1 := hide (bel (bel HB0.out hb) (bel1 V1 (.cells (cd 0 0 a1 0 c1 0) 26)))
    clear hb HFo
    go_wp2_with fail
    refine (HA.out _).mono ?_
    rintro e V2 ⟨rfl, hb⟩
    have HB2 := hide (bel HB1.out hb)
    clear hb
    go_wp2_with fail
    refine (HA.out _).mono ?_
    rintro e V3 ⟨rfl, hb⟩
    have HB3 := hide (bel HB2.out hb)
    clear hb
    go_wp2_with fail
    go_ret
    exact ⟨rfl, HB3.out⟩

end Go.Proofs.Prn
