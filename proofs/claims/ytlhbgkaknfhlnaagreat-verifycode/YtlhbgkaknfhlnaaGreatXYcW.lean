/-
  VerifyCode's walk.
-/
import Derived.Test.YtlhbgkaknfhlnaaGreatXYL
import Derived.Test.YtlhbgkaknfhlnaaGreatXYA
import Derived.Test.YtlhbgkaknfhlnaaGreatXCdE
namespace Go.Proofs.Vfy
open Go.RowKit Go.IntWalk YtlhbgkaknfhlnaaGreat.Knd
open Cde (In i0 ia kd cd Ins is6 mk7 four_of has_new1)
set_option linter.unusedVariables false

theorem roomy_ins {W : World} {base g n c : Nat} {L : List In} (hO : W.ownsRow base 54 6 (.slice (some ⟨g, 0, none⟩) (n + 1) c) (n + 1) (is6 (L ++ [mk7]))) : Ins W (some ⟨g, 0, none⟩) (n + 1) c (L ++ [mk7]) := by
  obtain ⟨a', c', e, hI, -⟩ := Ins.of_owns hO
  cases e
  exact hI
theorem ins_left {W : World} {a : Option Addr} {n c : Nat} {L : List In} (h : Ins W a (n + 1) c (L ++ [mk7])) : Ins W a n c L := by
  have hl := h.len
  simp at hl
  have h3 := h.take (k := n) (by omega)
  rw [← hl, List.take_left, hl] at h3
  exact h3
/-- The code, what Roomy made of it, their boxes. -/
structure Cq (W V : World) (f d out : Int) (a : Option Addr) (n cap g c q : Nat) (L : List In) : Prop where
  lo : Below W.heap.size W V
  b : HasC V W.heap.size 26 (cd f d a n cap out)
  r : HasC V q 26 (cd f d (some ⟨g, 0, none⟩) n c out)
  i : Ins V (some ⟨g, 0, none⟩) (n + 1) c (L ++ [mk7])
theorem Cq.later {W V V' : World} {f d out : Int} {a : Option Addr} {n cap g c q : Nat} {L : List In} (h : Cq W V f d out a n cap g c q L) (hb : Below V.heap.size V V') : Cq W V' f d out a n cap g c q L :=
  ⟨bel h.lo hb, h.b.below hb, h.r.below hb, h.i.later hb⟩
theorem spans_other {w : World} {a : Option Addr} {n cap : Nat} {L : Sps} (h : YtlhbgkaknfhlnaaGreat.Spn.Spans w a n cap L) {p : Addr} (hne : ∀ b off, a = some ⟨b, off, none⟩ → b ≠ p.block) (u : Value) : YtlhbgkaknfhlnaaGreat.Spn.Spans (w.setCell p u) a n cap L := by
  refine ⟨h.len, h.le, h.max, h.nil, ?_⟩
  rcases h.cell with h0 | ⟨b, off, ha, hc⟩
  · exact .inl h0
  · refine .inr ⟨b, off, ha, fun i hi => ?_⟩
    obtain ⟨c0, c1⟩ := hc i hi
    have hg := gset w p u
    have hlt : b < w.heap.size := World.block_lt_of_cell? w _ c0
    have hn : some b ≠ some p.block := fun e => hne b off ha (Option.some.inj e)
    exact ⟨(hg.cell_far ⟨b, off + i * 2, none⟩ hlt hn).trans c0, (hg.cell_far ⟨b, off + i * 2 + 1, none⟩ hlt hn).trans c1⟩

set_option maxRecDepth 100000 in
set_option maxHeartbeats 16000000 in
theorem ycode_walk (f d out : Int) {a : Option Addr} {n cap : Nat} {L : List In} {W : World} (hL : Ins W a n cap L) (hs : n ≤ 2932031007317) :
    Calls Tryz.prog 3 #[.agg (cd f d a n cap out)] W fun e W' => e = .returned (.bool true) ∧ Below W.heap.size W W' := by
  have hb1 := bel1 W (.cells (cd f d a n cap out) 26)
  have HC0 := hide (HasC.new W 26 (cd f d a n cap out))
  have HB0 := hide hb1
  have HR := hide (Cde.roomyC_any f d out (hL.later hb1) (by omega))
  have HA := hide fun w => yawake_any w
  have HE := hide fun (V : World) (g c q : Nat) (h : Cq W V f d out a n cap g c q L) => yverify_any f d out (ins_left h.i)
  have HJ := hide fun (V : World) (hb : Below W.heap.size W V) => jverify_any f d out (hL.later hb)
  have HH := hide fun (V : World) (g c q : Nat) (h : Cq W V f d out a n cap g c q L) => Cde.heldC_any f d out h.i (hL.later h.lo)
  have hn := vfN_few f d L out
  unfold VfP at HE HJ
  generalize vfN f d L out = m at *
  generalize vfC f d L out = co at *
  generalize vfS f d L out = S at *
  generalize vfE f d L out = er at *
  clear hb1 hL
  go_enter Tryz.func3, Tryz.ntmps3
  go_wp2_with fail
  refine HR.out.mono ?_
  rintro e V0 ⟨g, c, rfl, hO, hb⟩
  have hb2 := bel1 V0 (.cells (cd f d (some ⟨g, 0, none⟩) n c out) 26)
  have HC : Hid (Cq W (V0.alloc (.cells (cd f d (some ⟨g, 0, none⟩) n c out) 26)) f d out a n cap g c V0.heap.size L) :=
    ⟨bel (bel HB0.out hb) hb2, (HC0.out.below hb).below hb2, HasC.new V0 26 (cd f d (some ⟨g, 0, none⟩) n c out), (roomy_ins hO).later hb2⟩
  clear hb hb2 hO HR HC0 HB0
  go_wp2_with fail
  obtain ⟨q, hq⟩ : ∃ q, V0.heap.size = q := ⟨_, rfl⟩
  obtain ⟨V1, hV1⟩ : ∃ X, V0.alloc (.cells (cd f d (some ⟨g, 0, none⟩) n c out) 26) = X := ⟨_, rfl⟩
  rw [hV1, hq] at HC ⊢
  clear hV1 hq
  refine (HE.out V1 _ _ _ HC.out).mono ?_
  rintro e V2 ⟨a1, e1, rfl, hS1, hb, -, ho⟩
  have hba := bel1 V2 (.cells #[.slice a1 m e1, .int .i64 co, .int .i64 0] 30)
  have HC2 := hide (HC.out.later (bel hb hba))
  have HB2 := hide (bel hb hba)
  have HA2 := hide (HasC.new V2 30 #[.slice a1 m e1, .int .i64 co, .int .i64 0])
  have HSa2 := hide (hS1.later hba)
  have HO2 := hide ((ho rfl).later hba)
  obtain ⟨t0, t1, t2, t3⟩ := four_of (HC.out.later hb).b
  have zT := (HC.out.later hb).b.lt
  clear hba hb hS1 ho
  go_wp2_with fail
  obtain ⟨pa, hpa⟩ : ∃ p, V2.heap.size = p := ⟨_, rfl⟩
  obtain ⟨V3, hV3⟩ : ∃ X, V2.alloc (.cells #[.slice a1 m e1, .int .i64 co, .int .i64 0] 30) = X := ⟨_, rfl⟩
  rw [hV3] at HC2 HB2 HA2 HSa2 HO2 ⊢
  rw [hpa] at HA2 ⊢
  clear hV3 hpa t0 t1 t2 t3 zT
  refine (HJ.out V3 HC2.out.lo).mono ?_
  rintro e V4 ⟨a2, e2, rfl, hS2, hb, hf2, -⟩
  have hba := bel1 V4 (.cells #[.slice a2 m e2, .int .i64 co, .int .i64 0] 30)
  have hbb := bel hb hba
  have HC4 := hide (HC2.out.later hbb)
  have HB4 := hide (bel HB2.out hbb)
  have HA4 := hide (HA2.out.below hbb)
  have HSa4 := hide (HSa2.out.later hbb)
  have HO4 := hide (HO2.out.later hbb)
  have HBb4 := hide (HasC.new V4 30 #[.slice a2 m e2, .int .i64 co, .int .i64 0])
  have HSb4 := hide (hS2.later hba)
  have HF2 := hide hf2
  have HO3 := hide HO2.out
  clear hba hbb hb hS2 hf2 HC2 HB2 HA2 HSa2 HO2
  go_wp2_with fail
  obtain ⟨pb, hpb⟩ : ∃ p, V4.heap.size = p := ⟨_, rfl⟩
  obtain ⟨V5, hV5⟩ : ∃ X, V4.alloc (.cells #[.slice a2 m e2, .int .i64 co, .int .i64 0] 30) = X := ⟨_, rfl⟩
  rw [hV5] at HC4 HB4 HA4 HSa4 HO4 HBb4 HSb4 ⊢
  rw [hpb] at HBb4 ⊢
  clear hV5 hpb
  refine (HA.out _).mono ?_
  rintro e V6 ⟨rfl, hb⟩
  have HC6 := hide (HC4.out.later hb)
  have HB6 := hide (bel HB4.out hb)
  have HA6 := hide (HA4.out.below hb)
  have HSa6 := hide (HSa4.out.later hb)
  have HO6 := hide (HO4.out.later hb)
  have HBb6 := hide (HBb4.out.below hb)
  have HSb6 := hide (HSb4.out.later hb)
  clear hb HC4 HB4 HA4 HSa4 HO4 HBb4 HSb4
  obtain ⟨x0, x1, x2, -, -, -⟩ := three_of HA6.out
  obtain ⟨y0, y1, y2, -, -, -⟩ := three_of HBb6.out
  have hee : (er != er) = false := by simp
  go_wp2_with fail
  refine (jsame_any co 0 HSa6.out HSb6.out (by omega)).mono ?_
  clear x0 x1 x2 y0 y1 y2
  rintro e V7 ⟨rfl, hb⟩
  have HC7 := hide (HC6.out.later hb)
  have HB7 := hide (bel HB6.out hb)
  have HA7 := hide (HA6.out.below hb)
  have HO7 := hide (HO6.out.later hb)
  have HBb7 := hide (HBb6.out.below hb)
  have HSb7 := hide (HSb6.out.later hb)
  clear hb HC6 HB6 HA6 HSa6 HO6 HBb6 HSb6
  obtain ⟨t0, t1, t2, t3⟩ := four_of HC7.out.b
  obtain ⟨s0, s1, s2, s3⟩ := four_of HC7.out.r
  go_wp2_with fail
  refine (HH.out _ _ _ _ HC7.out).mono ?_
  clear HH t0 t1 t2 t3 s0 s1 s2 s3
  rintro e V8 ⟨rfl, hb⟩
  have HC8 := hide (HC7.out.later hb)
  have HB8 := hide (bel HB7.out hb)
  have HA8 := hide (HA7.out.below hb)
  have HO8 := hide (HO7.out.later hb)
  have HBb8 := hide (HBb7.out.below hb)
  have HSb8 := hide (HSb7.out.later hb)
  clear hb HC7 HB7 HA7 HO7 HBb7 HSb7
  obtain ⟨t0, t1, t2, t3⟩ := four_of HC8.out.r
  go_wp2_with fail
  clear t0 t1 t2 t3
  refine (HE.out V8 _ _ _ HC8.out).mono ?_
  rintro e V10 ⟨a3, e3, rfl, hS3, hb, hf3, -⟩
  have hba := bel1 V10 (.cells #[.slice a3 m e3, .int .i64 co, .int .i64 0] 30)
  have hbb := bel hb hba
  have HB11 := hide (bel HB8.out hbb)
  have HA11 := hide (HA8.out.below hbb)
  have HBb11 := hide (HBb8.out.below hbb)
  have HSb11 := hide (HSb8.out.later hbb)
  have HSc11 := hide (hS3.later hba)
  have HCc11 := hide (HasC.new V10 30 #[.slice a3 m e3, .int .i64 co, .int .i64 0])
  have HG : Hid (m = 0 ∨ ∃ g cs, a1 = some ⟨g, 0, none⟩ ∧ V1.heap.size ≤ g ∧ (∀ b off, a2 = some ⟨b, off, none⟩ → b ≠ g) ∧ (∀ b off, a3 = some ⟨b, off, none⟩ → b ≠ g) ∧ HasC (V10.alloc (.cells #[.slice a3 m e3, .int .i64 co, .int .i64 0] 30)) g 40 cs ∧ cs.size = 2 * m) := hide (by
    rcases HO3.out with h | ⟨g, cs, h1, h2, h3, h4⟩
    · exact .inl h
    · rcases HO8.out with h' | ⟨g', cs', h1', h2', h3', h4'⟩
      · exact .inl h'
      · rw [h1] at h1'
        cases h1'
        refine .inr ⟨g, cs', h1, h2, fun b off e => ?_, fun b off e => ?_, h3'.below hbb, h4'⟩
        · have := HF2.out b off e; have := h3.lt; omega
        · have := hf3 b off e; have := h3'.lt; omega)
  clear hba hbb hb hS3 hf3 HB8 HA8 HBb8 HSb8 HC8 HO8 HO3 HF2
  go_wp2_with fail
  obtain ⟨pc, hpc⟩ : ∃ p, V10.heap.size = p := ⟨_, rfl⟩
  obtain ⟨V11, hV11⟩ : ∃ X, V10.alloc (.cells #[.slice a3 m e3, .int .i64 co, .int .i64 0] 30) = X := ⟨_, rfl⟩
  rw [hV11] at HB11 HA11 HBb11 HSb11 HSc11 HCc11 HG ⊢
  rw [hpc] at HCc11 ⊢
  clear hV11 hpc
  go_loopw [10] (fun iv wr => ∃ i : Nat, i ≤ m ∧ iv = .int .i64 i ∧ Hid (Below V1.heap.size V1 wr) ∧ Hid (HasC wr pa 30 #[.slice a1 m e1, .int .i64 co, .int .i64 0]) ∧ Hid (HasC wr pb 30 #[.slice a2 m e2, .int .i64 co, .int .i64 0]) ∧ Hid (HasC wr pc 30 #[.slice a3 m e3, .int .i64 co, .int .i64 0]) ∧ Hid (YtlhbgkaknfhlnaaGreat.Spn.Spans wr a2 m e2 S) ∧ Hid (YtlhbgkaknfhlnaaGreat.Spn.Spans wr a3 m e3 S) ∧ Hid (m = 0 ∨ ∃ g cs, a1 = some ⟨g, 0, none⟩ ∧ V1.heap.size ≤ g ∧ (∀ b off, a2 = some ⟨b, off, none⟩ → b ≠ g) ∧ (∀ b off, a3 = some ⟨b, off, none⟩ → b ≠ g) ∧ HasC wr g 40 cs ∧ cs.size = 2 * m)) (fun iv _ => m - (intOf iv).toNat)
  case atStart => exact ⟨0, Nat.zero_le _, rfl, hide HB11.out, hide HA11.out, hide HBb11.out, hide HCc11.out, hide HSb11.out, hide HSc11.out, hide HG.out⟩
  case round =>
    clear HB11 HA11 HBb11 HSb11 HSc11 HCc11 HG
    obtain ⟨i, hi, rfl, HB, HA, HBb, HCc, HSb, HSc, HG⟩ := hrel
    rename World => Vr
    obtain ⟨x0, x1, x2, -, -, -⟩ := three_of HA.out
    by_cases hlt : i < m
    · rcases HG.out with h | ⟨g, cs, rfl, hz, hg2, hg3, hcs, hsz⟩
      · omega
      have hi0 : (0 : Int) ≤ i := by omega
      have hi1 : (i : Int) < m := by omega
      have q0 := hcs.cell (i * 2) (Array.getElem?_eq_getElem (by omega))
      have q1 := hcs.cell (i * 2 + 1) (Array.getElem?_eq_getElem (by omega))
      have q2 := hcs.frozen (i * 2)
      have q3 := hcs.frozen (i * 2 + 1)
      have na' : pa ≠ g := fun e => by have h := HA.out; rw [e] at h; have := h.symm.trans hcs; simp at this
      have nb' : pb ≠ g := fun e => by have h := HBb.out; rw [e] at h; have := h.symm.trans hcs; simp at this
      have nc' : pc ≠ g := fun e => by have h := HCc.out; rw [e] at h; have := h.symm.trans hcs; simp at this
      have HB' := hide ((HB.out.setCell (p := ⟨g, i * 2, none⟩) hz (.int .i64 9)).setCell (p := ⟨g, i * 2 + 1, none⟩) hz (.int .i64 0))
      have HA' := hide ((HA.out.other (p := ⟨g, i * 2, none⟩) na' (.int .i64 9)).other (p := ⟨g, i * 2 + 1, none⟩) na' (.int .i64 0))
      have HBb' := hide ((HBb.out.other (p := ⟨g, i * 2, none⟩) nb' (.int .i64 9)).other (p := ⟨g, i * 2 + 1, none⟩) nb' (.int .i64 0))
      have HCc' := hide ((HCc.out.other (p := ⟨g, i * 2, none⟩) nc' (.int .i64 9)).other (p := ⟨g, i * 2 + 1, none⟩) nc' (.int .i64 0))
      have HSb' := hide (spans_other (spans_other HSb.out (p := ⟨g, i * 2, none⟩) hg2 (.int .i64 9)) (p := ⟨g, i * 2 + 1, none⟩) hg2 (.int .i64 0))
      have HSc' := hide (spans_other (spans_other HSc.out (p := ⟨g, i * 2, none⟩) hg3 (.int .i64 9)) (p := ⟨g, i * 2 + 1, none⟩) hg3 (.int .i64 0))
      have HG' := hide (show m = 0 ∨ ∃ g' cs, some (⟨g, 0, none⟩ : Addr) = some ⟨g', 0, none⟩ ∧ V1.heap.size ≤ g' ∧ (∀ b off, a2 = some ⟨b, off, none⟩ → b ≠ g') ∧ (∀ b off, a3 = some ⟨b, off, none⟩ → b ≠ g') ∧ HasC ((Vr.setCell ⟨g, i * 2, none⟩ (.int .i64 9)).setCell ⟨g, i * 2 + 1, none⟩ (.int .i64 0)) g' 40 cs ∧ cs.size = 2 * m from .inr ⟨g, _, rfl, hz, hg2, hg3, (hcs.set (i * 2) _).set (i * 2 + 1) _, by simp [hsz]⟩)
      clear HB HA HBb HCc HSb HSc HG hcs hg2 hg3
      go_wp2_with fail
      go_roundw
      case rel => exact ⟨i + 1, by omega, by go_num, hide HB'.out, hide HA'.out, hide HBb'.out, hide HCc'.out, hide HSb'.out, hide HSc'.out, hide HG'.out⟩
      case measure => simp [intOf]; omega
    · obtain rfl : i = m := by omega
      have HC12 := hide (HC.out.later HB.out)
      obtain ⟨t0, t1, t2, t3⟩ := four_of HC12.out.r
      go_wp2_with fail
      clear t0 t1 t2 t3 x0 x1 x2
      refine (HE.out Vr _ _ _ HC12.out).mono ?_
      rintro e V13 ⟨a4, e4, rfl, hS4, hb, -, -⟩
      have hba := bel1 V13 (.cells #[.slice a4 i e4, .int .i64 co, .int .i64 0] 30)
      have hbb := bel hb hba
      have HO14 := hide (bel HC12.out.lo hbb)
      have HBb14 := hide (HBb.out.below hbb)
      have HCc14 := hide (HCc.out.below hbb)
      have HSb14 := hide (HSb.out.later hbb)
      have HSc14 := hide (HSc.out.later hbb)
      have HSd14 := hide (hS4.later hba)
      have HD14 := hide (HasC.new V13 30 #[.slice a4 i e4, .int .i64 co, .int .i64 0])
      obtain ⟨y0, y1, y2, -, -, -⟩ := three_of (HBb.out.below hb)
      obtain ⟨z0, z1, z2, -, -, -⟩ := three_of (HCc.out.below hb)
      have zB := (HBb.out.below hb).lt
      have zC := (HCc.out.below hb).lt
      clear hba hbb hb hS4 HB HA HBb HCc HSb HSc HG HC12
      go_wp2_with fail
      obtain ⟨pd, hpd⟩ : ∃ p, V13.heap.size = p := ⟨_, rfl⟩
      obtain ⟨V14, hV14⟩ : ∃ X, V13.alloc (.cells #[.slice a4 i e4, .int .i64 co, .int .i64 0] 30) = X := ⟨_, rfl⟩
      rw [hV14] at HO14 HBb14 HCc14 HSb14 HSc14 HSd14 HD14 ⊢
      rw [hpd] at HD14 ⊢
      clear hV14 hpd y0 y1 y2 z0 z1 z2 zB zC
      refine (jsame_any co 0 HSc14.out HSb14.out (by omega)).mono ?_
      rintro e V15 ⟨rfl, hb⟩
      have HO15 := hide (bel HO14.out hb)
      have HSb15 := hide (HSb14.out.later hb)
      have HSd15 := hide (HSd14.out.later hb)
      obtain ⟨y0, y1, y2, -, -, -⟩ := three_of (HBb14.out.below hb)
      obtain ⟨z0, z1, z2, -, -, -⟩ := three_of (HD14.out.below hb)
      clear hb
      go_wp2_with fail
      refine (jsame_any co 0 HSd15.out HSb15.out (by omega)).mono ?_
      rintro e V16 ⟨rfl, hb⟩
      have HO16 := hide (bel HO15.out hb)
      clear hb
      go_wp2_with fail
      go_ret
      exact ⟨rfl, HO16.out⟩

end Go.Proofs.Vfy
