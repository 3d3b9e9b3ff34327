/-
  more of the statements: what a code is refused as with instructions behind it.
-/
import Derived.Test.YtlhbgkaknfhlnaaY4
import Derived.Test.YtlhbgkaknfhlnaaCdS2
namespace Go.Proofs.Vfy
open Go.RowKit Go.IntWalk Ytlhbgkaknfhlnaa.Knd
open Cde (In i0 ia kd cd Ins is6 is6_len is6_one four_of has_own owns_other own_empty or_t cnt ready_mem wp_region_inv wpOp_list mixed0 owns_block)
set_option linter.unusedVariables false

/-- A region that draws, by which of its operations are done; only edges that bind count. -/
theorem wp_region_flagsB {P : Program} {ops : Array Oper} {Q : Exit → Act → World → Prop} {id : Nat} {a : Act} {w : World} (hm : P.follows .mixedOrders = true)
    (hord : ∀ (i : Nat) (o : Oper), ops[i]? = some o → ∀ e ∈ o.after, Region.binds .any e = true → e.on < i) (I : (Nat → Bool) → Act → World → Prop)
    (h0 : I (fun _ => false) a { w with drawn := w.drawn + 1 })
    (hs : ∀ d a w i o, I d a w → d i = false → ops[i]? = some o → (∀ e ∈ o.after, Region.binds .any e = true → d e.on = true) → ∀ Q' : Exit → Act → World → Prop, (∀ a w, I (fun j => j == i || d j) a w → Q' .normal a w) → wpList P ops Q' [o] a w)
    (he : ∀ d a w, I d a w → (∀ i, i < ops.size → d i = true) → Q .normal a w) : (Code.region id ops true).wp P Q a w := by
  refine wp_region_inv hm (fun listed a w => listed.size = ops.size ∧ I (fun j => listed.getD j false) a w) ⟨by simp, ?_⟩ ?_ ?_
  · have : (fun j => (Array.replicate ops.size false).getD j false) = fun _ => false := by
      funext j
      simp only [Array.getD_eq_getD_getElem?, Array.getElem?_replicate]
      split <;> rfl
    rw [this]
    exact h0
  · rintro listed a w i ⟨hsz, hI⟩ hi
    obtain ⟨h1, h2, o, ho, h3⟩ := ready_mem hi
    refine wpOp_list ho fun Q' hk _ => ?_
    refine hs _ a w i o hI ?_ ho h3 Q' fun a w hI' => hk a w ⟨by simp [hsz], ?_⟩
    · have hlt : i < listed.size := by omega
      simpa [Array.getD_eq_getD_getElem?, hlt] using h2
    · have : (fun j => (listed.setIfInBounds i true).getD j false) = fun j => j == i || listed.getD j false := by
        funext j
        simp only [Array.getD_eq_getD_getElem?, Array.getElem?_setIfInBounds]
        by_cases hj : i = j
        · subst hj
          have hlt : i < listed.size := by omega
          simp [hlt]
        · have : (j == i) = false := by simpa using fun e => hj e.symm
          rw [if_neg hj, this]
          simp
      rw [this]
      exact hI'
  · rintro listed a w ⟨hsz, hI⟩ hr
    refine he _ a w hI ?_
    intro i
    induction i using Nat.strongRecOn with
    | _ i ih =>
      intro hi
      cases hd : listed.getD i false with
      | true => rfl
      | false =>
        exfalso
        have hm' : i ∈ Region.ready .any ops listed := by
          unfold Region.ready
          rw [List.mem_filter, List.mem_range]
          refine ⟨hi, ?_⟩
          have hlt : i < listed.size := by omega
          have e1 : listed.getD i true = false := by
            simpa [Array.getD_eq_getD_getElem?, hlt] using hd
          rw [e1]
          obtain ⟨o, ho⟩ : ∃ o, ops[i]? = some o := ⟨ops[i], Array.getElem?_eq_getElem hi⟩
          rw [ho]
          simp only [Option.map_some, Option.getD_some, Bool.not_false, Bool.true_and, Array.all_eq_true]
          intro k hk
          by_cases hb : Region.binds .any o.after[k] = true
          · have hlt2 := hord i o ho o.after[k] (Array.getElem_mem hk) hb
            have := ih o.after[k].on hlt2 (by omega)
            rw [this]
            simp
          · have hb2 : Region.binds .any o.after[k] = false := by simpa using hb
            rw [hb2]
            rfl
        rw [hr] at hm'
        cases hm'
/-- The check that each operation waits only for ones ahead. -/
theorem ord_ofB {ops : Array Oper} (h : (ops.toList.zipIdx.all fun x => x.1.after.all fun e => !(Region.binds .any e) || decide (e.on < x.2)) = true) : ∀ (i : Nat) (o : Oper), ops[i]? = some o → ∀ e ∈ o.after, Region.binds .any e = true → e.on < i := by
  intro i o ho e he hb
  rw [List.all_eq_true] at h
  have h1 := h (o, i) (by
    rw [List.mem_zipIdx_iff_getElem?]
    simpa using ho)
  rw [Array.all_eq_true] at h1
  obtain ⟨k, hk, rfl⟩ := Array.mem_iff_getElem.1 he
  have := h1 k hk
  rw [hb] at this
  simpa using this

/-- The drawn region of more, by which of its operations are done. -/
structure Mg (W : World) (f d : Int) (a : Option Addr) (n cap : Nat) (o : Int) (L : List In) (lb m lc : Nat) (B : List In) (er co : Int) (rn : Nat) (q : Nat → Bool) (z5 z6 y0 y1 y2 y3 y4 y5 y6 y7 y8 y9 y10 y11 y12 y13 y14 : Value) (w : World) : Prop where
  bel : Below W.heap.size W w
  b0 : HasC w W.heap.size 26 (cd f d a n cap o)
  f0 : q 0 = true → y0 = .pointer (some ⟨W.heap.size, 0, none⟩)
  f1 : q 1 = true → y1 = .agg (kd f d)
  f2 : q 2 = true → q 5 = false → ∃ g, y2 = .slice (some ⟨g, 0, none⟩) 0 0 ∧ HasC w g 47 #[] ∧ W.heap.size ≤ g
  f3 : q 3 = true → y3 = .pointer (some ⟨W.heap.size, 2, none⟩)
  f4 : q 4 = true → y4 = .slice a n cap
  f5 : q 5 = true → q 7 = false → w.ownsRow W.heap.size 47 6 y5 n (is6 L)
  f6 : q 6 = true → y6 = .slice (some ⟨lb, 0, none⟩) m lc
  f7 : q 7 = true → q 11 = false → w.ownsRow W.heap.size 47 6 y7 (n + m) (is6 (L ++ B))
  f8 : q 8 = true → y8 = .pointer (some ⟨W.heap.size, 3, none⟩)
  f9 : q 9 = true → y9 = .int .i64 o
  f10 : q 10 = true → q 11 = false → ∃ ga gc, y10 = .agg (cd f d ga (n + m) gc o) ∧ Ins w ga (n + m) gc (L ++ B)
  f11 : q 11 = true → ∃ ra rc, y11 = .tuple #[.agg #[.slice ra rn rc, .int .i64 co, .int .i64 0], .int .i64 er]
  f12 : q 12 = true → ∃ ra rc, y12 = .tuple #[.agg #[.slice ra rn rc, .int .i64 co, .int .i64 0], .int .i64 er]
  f13 : q 13 = true → ∃ ra rc, y13 = .agg #[.slice ra rn rc, .int .i64 co, .int .i64 0]
  f14 : q 14 = true → y14 = .int .i64 er
  f15 : q 15 = true → q 16 = false → ∃ g, z5 = .pointer (some ⟨g, 0, none⟩) ∧ HasC w g 32 rep0 ∧ W.heap.size ≤ g
  f17 : q 17 = true → z6 = .int .i64 er
  pa : q 7 = true → q 5 = true
  pb : q 10 = true → q 7 = true
  pc : q 11 = true → q 10 = true
theorem is6_app (A B : List In) : is6 (A ++ B) = is6 A ++ is6 B := by simp [is6]
theorem ins_bel {W W' : World} {base : Nat} {v : Value} {n : Nat} {L : List In} (h : W.ownsRow base 47 6 v n (is6 L)) (hb : Below W.heap.size W W') : W'.ownsRow base 47 6 v n (is6 L) := Cde.own_later h hb

set_option maxRecDepth 100000 in
set_option maxHeartbeats 16000000 in
theorem ymore_any (f d o : Int) {a : Option Addr} {n cap lb m lc : Nat} {L B : List In} {W : World} (hL : Ins W a n cap L) (hM : Ins W (some ⟨lb, 0, none⟩) m lc B) (hn : n ≤ 1000) (hm : m ≤ 1000) :
    Calls Try.prog 11 #[.agg (cd f d a n cap o), .slice (some ⟨lb, 0, none⟩) m lc] W fun e W' => e = .returned (.int .i64 (vfE f d (L ++ B) o)) ∧ Below W.heap.size W W' := by
  have hb1 := bel1 W (.cells (cd f d a n cap o) 26)
  have H0 := hide (HasC.new W 26 (cd f d a n cap o))
  have HB := hide hb1
  have HL := hide hL
  have HM := hide hM
  have HNO := hide fun (h : a = none) => (show n = 0 ∧ cap = 0 by have h1 := hL.nil h; have h2 := hL.le; omega)
  have HLl := hide hL.len
  have HMl := hide hM.len
  obtain ⟨iN, hiN, hzN0, hzN1, hzN2⟩ := info_parts Cde.infoN
  have HIN := hide (And.intro hiN (And.intro hzN0 (And.intro hzN1 hzN2)))
  clear hiN hzN0 hzN1 hzN2 hb1 hL hM
  have HV := hide fun (w : World) (ga : Option Addr) (gc : Nat) (h : Ins w ga (n + m) gc (L ++ B)) => yverify_any f d o h
  unfold VfP at HV
  generalize vfE f d (L ++ B) o = er at *
  generalize vfC f d (L ++ B) o = co at *
  generalize vfN f d (L ++ B) o = rn at *
  generalize vfS f d (L ++ B) o = S at *
  go_enter Try.func11, Try.ntmps11
  go_wp2_with fail
  obtain ⟨V0, hV0⟩ : ∃ V, W.alloc (.cells (cd f d a n cap o) 26) = V := ⟨_, rfl⟩
  rw [hV0] at H0 HB ⊢
  clear hV0
  refine wp_region_flagsB mixed0 (ord_ofB (by kernel_rfl)) (fun q a' w => ∃ z3 z4 z5 z6 y0 y1 y2 y3 y4 y5 y6 y7 y8 y9 y10 y11 y12 y13 y14 z22, a' = ⟨#[.agg (cd f d a n cap o), .slice (some ⟨lb, 0, none⟩) m lc, .pointer (some ⟨W.heap.size, 0, none⟩), z3, z4, z5, z6, y12, y0, y1, y2, y3, y4, y5, y6, y7, y8, y9, y10, y11, y13, y14, z22], []⟩ ∧ Mg W f d a n cap o L lb m lc B er co rn q z5 z6 y0 y1 y2 y3 y4 y5 y6 y7 y8 y9 y10 y11 y12 y13 y14 w) ?_ ?_ ?_
  · refine ⟨_, _, _, _, _, _, _, _, _, _, _, _, _, _, _, _, _, _, _, _, rfl, ⟨HB.out.os, HB.out.tape, HB.out.output, HB.out.size, HB.out.block⟩, H0.out, ?_, ?_, ?_, ?_, ?_, ?_, ?_, ?_, ?_, ?_, ?_, ?_, ?_, ?_, ?_, ?_, ?_, ?_, ?_, ?_⟩
    all_goals first | (intro h; cases h; done) | (intro _ h; cases h; done)
  · rintro q a' w i op ⟨z3, z4, z5, z6, y0, y1, y2, y3, y4, y5, y6, y7, y8, y9, y10, y11, y12, y13, y14, z22, rfl, C⟩ hdi ho haft Q' hk'
    have HK := hide hk'
    clear hk' H0 HB
    have hi : i < 18 := (Array.getElem?_eq_some_iff.1 ho).1
    match i, hi with
    | 0, _ =>
      obtain rfl := (Option.some.inj ho)
      clear haft ho
      have C := hide C
      go_wp2
      have C := C.out
      exact HK.out _ _ ⟨z3, z4, z5, z6, _, y1, y2, y3, y4, y5, y6, y7, y8, y9, y10, y11, y12, y13, y14, z22, rfl, ⟨C.bel, C.b0, (fun _ => rfl), C.f1, C.f2, C.f3, C.f4, C.f5, C.f6, C.f7, C.f8, C.f9, C.f10, C.f11, C.f12, C.f13, C.f14, C.f15, C.f17, (fun h => or_t (C.pa h)), (fun h => or_t (C.pb h)), (fun h => or_t (C.pc h))⟩⟩
    | 1, _ =>
      obtain rfl := (Option.some.inj ho)
      have g0 : q 0 = true := haft ⟨0, .data⟩ (by simp) rfl
      clear haft ho
      have e1 := C.f0 g0
      subst e1
      obtain ⟨q0, q1, q2, q3⟩ := four_of C.b0
      have C := hide C
      go_wp2
      have C := C.out
      exact HK.out _ _ ⟨z3, z4, z5, z6, _, _, y2, y3, y4, y5, y6, y7, y8, y9, y10, y11, y12, y13, y14, z22, rfl, ⟨C.bel, C.b0, C.f0, (fun _ => rfl), C.f2, C.f3, C.f4, C.f5, C.f6, C.f7, C.f8, C.f9, C.f10, C.f11, C.f12, C.f13, C.f14, C.f15, C.f17, (fun h => or_t (C.pa h)), (fun h => or_t (C.pb h)), (fun h => or_t (C.pc h))⟩⟩
    | 2, _ =>
      obtain rfl := (Option.some.inj ho)
      clear haft ho
      have C := hide C
      go_wp2
      have C := C.out
      have hb : Below W.heap.size W (w.alloc (.cells #[] 47)) := C.bel.alloc C.bel.size _
      exact HK.out _ _ ⟨z3, z4, z5, z6, y0, y1, _, y3, y4, y5, y6, y7, y8, y9, y10, y11, y12, y13, y14, z22, rfl, ⟨hb, (C.b0.alloc _), C.f0, C.f1, (fun _ _ => ⟨_, rfl, HasC.new w 47 #[], C.bel.size⟩), C.f3, C.f4, (fun h h2 => (C.f5 h h2).alloc _), C.f6, (fun h h2 => (C.f7 h h2).alloc _), C.f8, C.f9, (fun h h2 => by obtain ⟨ga, gc, h3, h4⟩ := C.f10 h h2; exact ⟨ga, gc, h3, h4.later (bel1 _ _)⟩), C.f11, C.f12, C.f13, C.f14, (fun h h2 => by obtain ⟨g, h3, h4, h5⟩ := C.f15 h h2; exact ⟨g, h3, h4.alloc _, h5⟩), C.f17, (fun h => or_t (C.pa h)), (fun h => or_t (C.pb h)), (fun h => or_t (C.pc h))⟩⟩
    | 3, _ =>
      obtain rfl := (Option.some.inj ho)
      clear haft ho
      have C := hide C
      go_wp2
      have C := C.out
      exact HK.out _ _ ⟨z3, z4, z5, z6, y0, y1, y2, _, y4, y5, y6, y7, y8, y9, y10, y11, y12, y13, y14, z22, rfl, ⟨C.bel, C.b0, C.f0, C.f1, C.f2, (fun _ => rfl), C.f4, C.f5, C.f6, C.f7, C.f8, C.f9, C.f10, C.f11, C.f12, C.f13, C.f14, C.f15, C.f17, (fun h => or_t (C.pa h)), (fun h => or_t (C.pb h)), (fun h => or_t (C.pc h))⟩⟩
    | 4, _ =>
      obtain rfl := (Option.some.inj ho)
      have g3 : q 3 = true := haft ⟨3, .data⟩ (by simp) rfl
      clear haft ho
      have e1 := C.f3 g3
      subst e1
      obtain ⟨q0, q1, q2, q3⟩ := four_of C.b0
      have C := hide C
      go_wp2
      have C := C.out
      exact HK.out _ _ ⟨z3, z4, z5, z6, y0, y1, y2, _, _, y5, y6, y7, y8, y9, y10, y11, y12, y13, y14, z22, rfl, ⟨C.bel, C.b0, C.f0, C.f1, C.f2, C.f3, (fun _ => rfl), C.f5, C.f6, C.f7, C.f8, C.f9, C.f10, C.f11, C.f12, C.f13, C.f14, C.f15, C.f17, (fun h => or_t (C.pa h)), (fun h => or_t (C.pb h)), (fun h => or_t (C.pc h))⟩⟩
    | 5, _ =>
      obtain rfl := (Option.some.inj ho)
      have g2 : q 2 = true := haft ⟨2, .data⟩ (by simp) rfl
      have g4 : q 4 = true := haft ⟨4, .data⟩ (by simp) rfl
      clear haft ho
      obtain ⟨g0, e1, hE, hg0⟩ := C.f2 g2 hdi
      have e2 := C.f4 g4
      subst e1 e2
      have hO := own_empty hE hg0
      refine Cde.append_row w rfl (.tmp 10) (.tmp 12) 24 rfl W.heap.size 47 _ _ 6 48 Try.underlying24 HIN.out.1 HIN.out.2.1 HIN.out.2.2.1 HIN.out.2.2.2 rfl (by omega) _ rfl hO a n cap (is6 L) rfl (by rw [is6_len, HLl.out]) HNO.out (HL.out.later C.bel).news (is6_one L) (by unfold maxLen; omega) (by omega) C.bel.size ?_
      intro v' w' hown hgrow
      have hb : Below W.heap.size W w' := C.bel.grown hgrow C.bel.size fun k hk => (owns_block hO k hk).1
      exact HK.out _ _ ⟨z3, z4, z5, z6, y0, y1, _, y3, _, _, y6, y7, y8, y9, y10, y11, y12, y13, y14, z22, rfl, ⟨hb, (has_own C.b0 hO hgrow (by decide)), C.f0, C.f1, (fun _ h => by cases h), C.f3, C.f4, (fun _ _ => hown), C.f6, (fun h _ => by have h2 := C.pa h; rw [hdi] at h2; cases h2), C.f8, C.f9, (fun h _ => by have h2 := C.pa (C.pb h); rw [hdi] at h2; cases h2), C.f11, C.f12, C.f13, C.f14, (fun h h2 => by obtain ⟨g, h3, h4, h5⟩ := C.f15 h h2; exact ⟨g, h3, has_own h4 hO hgrow (by decide), h5⟩), C.f17, (fun h => or_t (C.pa h)), (fun h => or_t (C.pb h)), (fun h => or_t (C.pc h))⟩⟩
    | 6, _ =>
      obtain rfl := (Option.some.inj ho)
      clear haft ho
      have C := hide C
      go_wp2
      have C := C.out
      exact HK.out _ _ ⟨z3, z4, z5, z6, y0, y1, y2, y3, y4, y5, _, y7, y8, y9, y10, y11, y12, y13, y14, z22, rfl, ⟨C.bel, C.b0, C.f0, C.f1, C.f2, C.f3, C.f4, C.f5, (fun _ => rfl), C.f7, C.f8, C.f9, C.f10, C.f11, C.f12, C.f13, C.f14, C.f15, C.f17, (fun h => or_t (C.pa h)), (fun h => or_t (C.pb h)), (fun h => or_t (C.pc h))⟩⟩
    | 7, _ =>
      obtain rfl := (Option.some.inj ho)
      have g5 : q 5 = true := haft ⟨5, .data⟩ (by simp) rfl
      have g6 : q 6 = true := haft ⟨6, .data⟩ (by simp) rfl
      clear haft ho
      have e1 := C.f6 g6
      subst e1
      have hO := C.f5 g5 hdi
      refine wpList_append_own w rfl (.tmp 13) (.tmp 14) 24 rfl W.heap.size 47 _ _ 6 48 Try.underlying24 HIN.out.1 HIN.out.2.1 HIN.out.2.2.1 HIN.out.2.2.2 rfl (by omega) _ n (is6 L) rfl hO ⟨lb, 0, none⟩ m lc (is6 B) rfl (by rw [is6_len, HMl.out]) ((HM.out.later C.bel).news _ rfl) (is6_one B) (by unfold maxLen; omega) (by omega) C.bel.size ?_
      intro v' w' hown hgrow hiff
      have hb : Below W.heap.size W w' := C.bel.grown hgrow C.bel.size fun k hk => (owns_block hO k hk).1
      exact HK.out _ _ ⟨z3, z4, z5, z6, y0, y1, y2, y3, y4, y5, _, _, y8, y9, y10, y11, y12, y13, y14, z22, rfl, ⟨hb, (has_own C.b0 hO hgrow (by decide)), C.f0, C.f1, (fun _ h => by have h2 : q 5 = false := h; rw [g5] at h2; cases h2), C.f3, C.f4, (fun _ h => by cases h), C.f6, (fun _ _ => by rw [is6_app]; exact hown), C.f8, C.f9, (fun h _ => by have h2 := C.pb h; rw [hdi] at h2; cases h2), C.f11, C.f12, C.f13, C.f14, (fun h h2 => by obtain ⟨g, h3, h4, h5⟩ := C.f15 h h2; exact ⟨g, h3, has_own h4 hO hgrow (by decide), h5⟩), C.f17, (fun _ => or_t g5), (fun h => or_t (C.pb h)), (fun h => or_t (C.pc h))⟩⟩
    | 8, _ =>
      obtain rfl := (Option.some.inj ho)
      clear haft ho
      have C := hide C
      go_wp2
      have C := C.out
      exact HK.out _ _ ⟨z3, z4, z5, z6, y0, y1, y2, y3, y4, y5, y6, y7, _, y9, y10, y11, y12, y13, y14, z22, rfl, ⟨C.bel, C.b0, C.f0, C.f1, C.f2, C.f3, C.f4, C.f5, C.f6, C.f7, (fun _ => rfl), C.f9, C.f10, C.f11, C.f12, C.f13, C.f14, C.f15, C.f17, (fun h => or_t (C.pa h)), (fun h => or_t (C.pb h)), (fun h => or_t (C.pc h))⟩⟩
    | 9, _ =>
      obtain rfl := (Option.some.inj ho)
      have g8 : q 8 = true := haft ⟨8, .data⟩ (by simp) rfl
      clear haft ho
      have e1 := C.f8 g8
      subst e1
      obtain ⟨q0, q1, q2, q3⟩ := four_of C.b0
      have C := hide C
      go_wp2
      have C := C.out
      exact HK.out _ _ ⟨z3, z4, z5, z6, y0, y1, y2, y3, y4, y5, y6, y7, _, _, y10, y11, y12, y13, y14, z22, rfl, ⟨C.bel, C.b0, C.f0, C.f1, C.f2, C.f3, C.f4, C.f5, C.f6, C.f7, C.f8, (fun _ => rfl), C.f10, C.f11, C.f12, C.f13, C.f14, C.f15, C.f17, (fun h => or_t (C.pa h)), (fun h => or_t (C.pb h)), (fun h => or_t (C.pc h))⟩⟩
    | 10, _ =>
      obtain rfl := (Option.some.inj ho)
      have g1 : q 1 = true := haft ⟨1, .data⟩ (by simp) rfl
      have g7 : q 7 = true := haft ⟨7, .data⟩ (by simp) rfl
      have g9 : q 9 = true := haft ⟨9, .data⟩ (by simp) rfl
      clear haft ho
      have g11 : q 11 = false := by
        cases h : q 11
        · rfl
        · have h2 := C.pc h; rw [hdi] at h2; cases h2
      have hO := C.f7 g7 g11
      obtain ⟨ga, gc, e3, hI, -⟩ := Ins.of_owns hO
      have e1 := C.f1 g1
      have e2 := C.f9 g9
      have HO := hide hO
      clear hO
      subst e1 e2 e3
      have HI := hide hI
      clear hI
      have C := hide C
      go_wp2
      have C := C.out
      exact HK.out _ _ ⟨z3, z4, z5, z6, y0, _, y2, y3, y4, y5, y6, _, y8, _, _, y11, y12, y13, y14, z22, rfl, ⟨C.bel, C.b0, C.f0, C.f1, C.f2, C.f3, C.f4, C.f5, C.f6, (fun _ _ => HO.out), C.f8, C.f9, (fun _ _ => ⟨ga, gc, rfl, HI.out⟩), C.f11, C.f12, C.f13, C.f14, C.f15, C.f17, (fun h => or_t (C.pa h)), (fun _ => or_t g7), (fun h => or_t (C.pc h))⟩⟩
    | 11, _ =>
      obtain rfl := (Option.some.inj ho)
      have g10 : q 10 = true := haft ⟨10, .data⟩ (by simp) rfl
      clear haft ho
      obtain ⟨ga, gc, e1, hI⟩ := C.f10 g10 hdi
      subst e1
      have HI := hide hI
      have C := hide C
      clear hI
      go_wp2_with fail
      refine (HV.out _ _ _ HI.out).mono ?_
      rintro e w' ⟨ra, rc, rfl, -, hb, -, -⟩
      have HB2 := hide hb
      clear hb
      go_wp2_with fail
      have hb := HB2.out
      have C := C.out
      exact HK.out _ _ ⟨z3, z4, z5, z6, y0, y1, y2, y3, y4, y5, y6, y7, y8, y9, _, _, y12, y13, y14, z22, rfl, ⟨(bel C.bel hb), (C.b0.below hb), C.f0, C.f1, (fun _ h => by have h2 : q 5 = false := h; rw [C.pa (C.pb g10)] at h2; cases h2), C.f3, C.f4, (fun _ h => by have h2 : q 7 = false := h; rw [C.pb g10] at h2; cases h2), C.f6, (fun _ h => by cases h), C.f8, C.f9, (fun _ h => by cases h), (fun _ => ⟨ra, rc, rfl⟩), C.f12, C.f13, C.f14, (fun h h2 => by obtain ⟨g, h3, h4, h5⟩ := C.f15 h h2; exact ⟨g, h3, h4.below hb, h5⟩), C.f17, (fun h => or_t (C.pa h)), (fun h => or_t (C.pb h)), (fun _ => or_t g10)⟩⟩
    | 12, _ =>
      obtain rfl := (Option.some.inj ho)
      have g11 : q 11 = true := haft ⟨11, .data⟩ (by simp) rfl
      clear haft ho
      obtain ⟨ra, rc, e1⟩ := C.f11 g11
      subst e1
      have C := hide C
      go_wp2
      have C := C.out
      exact HK.out _ _ ⟨z3, z4, z5, z6, y0, y1, y2, y3, y4, y5, y6, y7, y8, y9, y10, _, _, y13, y14, z22, rfl, ⟨C.bel, C.b0, C.f0, C.f1, C.f2, C.f3, C.f4, C.f5, C.f6, C.f7, C.f8, C.f9, C.f10, C.f11, (fun _ => ⟨ra, rc, rfl⟩), C.f13, C.f14, C.f15, C.f17, (fun h => or_t (C.pa h)), (fun h => or_t (C.pb h)), (fun h => or_t (C.pc h))⟩⟩
    | 13, _ =>
      obtain rfl := (Option.some.inj ho)
      have g12 : q 12 = true := haft ⟨12, .data⟩ (by simp) rfl
      clear haft ho
      obtain ⟨ra, rc, e1⟩ := C.f12 g12
      subst e1
      have C := hide C
      go_wp2
      have C := C.out
      exact HK.out _ _ ⟨z3, z4, z5, z6, y0, y1, y2, y3, y4, y5, y6, y7, y8, y9, y10, y11, _, _, y14, z22, rfl, ⟨C.bel, C.b0, C.f0, C.f1, C.f2, C.f3, C.f4, C.f5, C.f6, C.f7, C.f8, C.f9, C.f10, C.f11, C.f12, (fun _ => ⟨ra, rc, rfl⟩), C.f14, C.f15, C.f17, (fun h => or_t (C.pa h)), (fun h => or_t (C.pb h)), (fun h => or_t (C.pc h))⟩⟩
    | 14, _ =>
      obtain rfl := (Option.some.inj ho)
      have g12 : q 12 = true := haft ⟨12, .data⟩ (by simp) rfl
      clear haft ho
      obtain ⟨ra, rc, e1⟩ := C.f12 g12
      subst e1
      have C := hide C
      go_wp2
      have C := C.out
      exact HK.out _ _ ⟨z3, z4, z5, z6, y0, y1, y2, y3, y4, y5, y6, y7, y8, y9, y10, y11, _, y13, _, z22, rfl, ⟨C.bel, C.b0, C.f0, C.f1, C.f2, C.f3, C.f4, C.f5, C.f6, C.f7, C.f8, C.f9, C.f10, C.f11, C.f12, C.f13, (fun _ => rfl), C.f15, C.f17, (fun h => or_t (C.pa h)), (fun h => or_t (C.pb h)), (fun h => or_t (C.pc h))⟩⟩
    | 15, _ =>
      obtain rfl := (Option.some.inj ho)
      clear haft ho
      have C := hide C
      go_wp2
      have C := C.out
      have hb : Below W.heap.size W (w.alloc (.cells rep0 32)) := C.bel.alloc C.bel.size _
      exact HK.out _ _ ⟨z3, z4, _, z6, y0, y1, y2, y3, y4, y5, y6, y7, y8, y9, y10, y11, y12, y13, y14, z22, rfl, ⟨hb, (C.b0.alloc _), C.f0, C.f1, (fun h h2 => by obtain ⟨g, h3, h4, h5⟩ := C.f2 h h2; exact ⟨g, h3, h4.alloc _, h5⟩), C.f3, C.f4, (fun h h2 => (C.f5 h h2).alloc _), C.f6, (fun h h2 => (C.f7 h h2).alloc _), C.f8, C.f9, (fun h h2 => by obtain ⟨ga, gc, h3, h4⟩ := C.f10 h h2; exact ⟨ga, gc, h3, h4.later (bel1 _ _)⟩), C.f11, C.f12, C.f13, C.f14, (fun _ _ => ⟨_, rfl, HasC.new w 32 rep0, C.bel.size⟩), C.f17, (fun h => or_t (C.pa h)), (fun h => or_t (C.pb h)), (fun h => or_t (C.pc h))⟩⟩
    | 16, _ =>
      obtain rfl := (Option.some.inj ho)
      have g15 : q 15 = true := haft ⟨15, .data⟩ (by simp) rfl
      have g13 : q 13 = true := haft ⟨13, .data⟩ (by simp) rfl
      have g11 : q 11 = true := haft ⟨11, .chain⟩ (by simp) rfl
      clear haft ho
      obtain ⟨g, e1, hR, hg⟩ := C.f15 g15 hdi
      obtain ⟨ra, rc, e2⟩ := C.f13 g13
      subst e1 e2
      obtain ⟨r0, r1, r2, r3, r4, r5⟩ := three_of hR
      have hne : W.heap.size ≠ g := fun e => by
        have h1 := C.b0
        rw [e] at h1
        have h2 := (show w.heap[g]? = _ from h1).symm.trans (show w.heap[g]? = _ from hR)
        simp at h2
      have hb := (put_three hR C.bel hg (.slice ra rn rc) (.int .i64 co) (.int .i64 0)).2
      have C := hide C
      go_wp2
      have C := C.out
      exact HK.out _ _ ⟨z3, z4, _, z6, y0, y1, y2, y3, y4, y5, y6, y7, y8, y9, y10, y11, y12, _, y14, z22, rfl, ⟨hb, (other_three C.b0 hne (.slice ra rn rc) (.int .i64 co) (.int .i64 0)), C.f0, C.f1, (fun _ h => by have h2 : q 5 = false := h; rw [C.pa (C.pb (C.pc g11))] at h2; cases h2), C.f3, C.f4, (fun _ h => by have h2 : q 7 = false := h; rw [C.pb (C.pc g11)] at h2; cases h2), C.f6, (fun _ h => by have h2 : q 11 = false := h; rw [g11] at h2; cases h2), C.f8, C.f9, (fun _ h => by have h2 : q 11 = false := h; rw [g11] at h2; cases h2), C.f11, C.f12, C.f13, C.f14, (fun _ h => by cases h), C.f17, (fun h => or_t (C.pa h)), (fun h => or_t (C.pb h)), (fun h => or_t (C.pc h))⟩⟩
    | 17, _ =>
      obtain rfl := (Option.some.inj ho)
      have g14 : q 14 = true := haft ⟨14, .data⟩ (by simp) rfl
      clear haft ho
      have e1 := C.f14 g14
      subst e1
      have C := hide C
      go_wp2
      have C := C.out
      exact HK.out _ _ ⟨z3, z4, z5, _, y0, y1, y2, y3, y4, y5, y6, y7, y8, y9, y10, y11, y12, y13, _, z22, rfl, ⟨C.bel, C.b0, C.f0, C.f1, C.f2, C.f3, C.f4, C.f5, C.f6, C.f7, C.f8, C.f9, C.f10, C.f11, C.f12, C.f13, C.f14, C.f15, (fun _ => rfl), (fun h => or_t (C.pa h)), (fun h => or_t (C.pb h)), (fun h => or_t (C.pc h))⟩⟩
  rintro q a' V1 ⟨z3, z4, z5, z6, y0, y1, y2, y3, y4, y5, y6, y7, y8, y9, y10, y11, y12, y13, y14, z22, rfl, C⟩ hall
  have e1 := C.f17 (hall 17 (by decide))
  subst e1
  have HB1 := hide C.bel
  clear C hall H0 HB
  go_wp2_with fail
  go_ret
  exact ⟨rfl, HB1.out⟩

end Go.Proofs.Vfy
