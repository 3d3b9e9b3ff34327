/-
  The document's Taken.
-/
import Derived.Test.YtjfcdfjegjplhaaGreatMFC
import Derived.Test.YtjfcdfjegjplhaaGreatMYL
import Derived.Deep.AppendLies
import Derived.Test.YtjfcdfjegjplhaaGreatMFA
import Derived.Test.YtjfcdfjegjplhaaGreatMFt
namespace Go.Proofs.Fld
open Go.RowKit Go.IntWalk YtjfcdfjegjplhaaGreat.Knd
open Cde (In i0 ia kd cd Ins at6 six_of four_of two_of has_new1 okI okT below_drew is6 i6)
open Vfy (vfE vfN vfC)
set_option linter.unusedVariables false

/-- All instructions appended to an empty list, at a step of a region that draws. -/
theorem cl_step {V : World} {base b0 : Nat} {L : List In} {n c : Nat} {ad : Addr} {ops : Array Oper} {o : Oper} {a : Act} {K : Act → World → Prop} {Q : Exit → Act → World → Prop} {E : Prop}
    (hgd : o.guard = none) (s x : Operand) (ho : o.op = .call { callee := .builtin .append, args := #[s, x], argTypes := #[24, 24] })
    (hs : a.eval s = .slice (some ⟨b0, 0, none⟩) 0 0) (hen : V.ownsRow base 39 6 (.slice (some ⟨b0, 0, none⟩) 0 0) 0 []) (hbase : base ≤ V.heap.size) (hx : a.eval x = .slice (some ad) n c) (hl : (is6 L).length = n * 6)
    (hN : ∀ j u, (is6 L)[j]? = some u → V.cell? (ad.add j) = some u) (hn0 : 0 < n) (h3 : n ≤ 2000000)
    (h : ∀ g cap w', w'.ownsRow base 39 6 (.slice (some ⟨g, 0, none⟩) n cap) n (is6 L) → V.grownBy w' (some b0) → K (a.put o.dst (.slice (some ⟨g, 0, none⟩) n cap)) w') :
    if Region.wanted o (yielded ops a.tmps) = true then Oper.wp Tryz.prog o a V K Q else E := by
  obtain ⟨i0', hi0, hz0, hz1, hz2⟩ := YtjfcdfjegjplhaaGreat.Spn.info_parts infoI
  refine step_append_lies V hgd s x 24 ho base 39 i0' _ 6 48 Tryz.underlying24 hi0 hz0 hz1 hz2 rfl (by omega) (.slice (some ⟨b0, 0, none⟩) 0 0) 0 [] hs hen ad n c (is6 L) hx hl hN (Cde.is6_one L) hn0 (by unfold maxLen; omega) (by omega) hbase V.heap.size rfl ?_
  intro g cap w' hown hgrow hat hlt
  rw [Nat.zero_add, List.nil_append] at hown
  rw [Nat.zero_add]
  exact h g cap w' hown hgrow

set_option maxRecDepth 100000 in
set_option maxHeartbeats 8000000 in
theorem gtaken_any (f d o1 o2 : Int) {a1 a2 : Option Addr} {n1 n2 c1 c2 : Nat} {M L : List In} {W : World} (hM : Ins W a1 n1 c1 M) (hL : Ins W a2 n2 c2 L) (hn0 : 0 < n2) (hn : n2 ≤ 1000) :
    Calls Tryz.prog 24 #[.agg (cd f d a2 n2 c2 o2), .agg (cd f d a1 n1 c1 o1)] W fun e W' =>
      (vfE f d M o1 = 0 ∧ e = .returned (.agg (cd f d a1 n1 c1 o1)) ∧ Below W.heap.size W W') ∨
      (vfE f d M o1 ≠ 0 ∧ ∃ a' c', e = .returned (.agg (cd f d a' n2 c' o2)) ∧ W'.ownsRow W.heap.size 39 6 (.slice a' n2 c') n2 (is6 L) ∧ Below W.heap.size W W') := by
  have b1 := bel1 W (.cells (cd f d a2 n2 c2 o2) 26)
  have b2 := bel b1 (bel1 _ (.cells (cd f d a1 n1 c1 o1) 26))
  have b3 := bel b2 (bel1 _ (.cells cdz 26))
  have h3 := HasC.new ((W.alloc (.cells (cd f d a2 n2 c2 o2) 26)).alloc (.cells (cd f d a1 n1 c1 o1) 26)) 26 cdz
  rw [World.size_alloc, World.size_alloc] at h3
  have HF0 : Hid (Fh W (((W.alloc (.cells (cd f d a2 n2 c2 o2) 26)).alloc (.cells (cd f d a1 n1 c1 o1) 26)).alloc (.cells cdz 26)) (cd f d a2 n2 c2 o2) (cd f d a1 n1 c1 o1) cdz) :=
    hide ⟨((HasC.new W 26 (cd f d a2 n2 c2 o2)).alloc (.cells (cd f d a1 n1 c1 o1) 26)).alloc (.cells cdz 26), (has_new1 W (.cells (cd f d a2 n2 c2 o2) 26) 26 (cd f d a1 n1 c1 o1)).alloc (.cells cdz 26), h3, b3⟩
  have HV := hide (Vfy.jverify_any f d o1 (hM.later b3))
  have HLI := hide hL
  clear b1 b2 b3 h3 hM hL
  go_enter Tryz.func24, Tryz.ntmps24
  go_wp2_with fail
  refine HV.out.mono ?_
  rintro e V1 ⟨ga, gc, rfl, hS, hb, -, -⟩
  obtain ⟨m, hm⟩ : ∃ m, vfN f d M o1 = m := ⟨_, rfl⟩
  obtain ⟨co, hco⟩ : ∃ co, vfC f d M o1 = co := ⟨_, rfl⟩
  obtain ⟨er, her⟩ : ∃ er, vfE f d M o1 = er := ⟨_, rfl⟩
  rw [hm, hco, her]
  have HEr := hide her
  have hb2 := bel1 V1 (.cells #[.slice ga m gc, .int .i64 co, .int .i64 0] 42)
  have HF1 := hide ((HF0.out.below hb).below hb2)
  obtain ⟨x0, x1, x2, x3⟩ := four_of (HF0.out.below hb).c
  obtain ⟨w0, w1, w2, w3⟩ := four_of (HF0.out.below hb).w
  obtain ⟨p0, p1, p2, p3⟩ := four_of (HF0.out.below hb).r
  have z0 := (HF0.out.below hb).c.lt
  have z1 := (HF0.out.below hb).w.lt
  have z2 := (HF0.out.below hb).r.lt
  clear hm hco her hb hb2 hS HV HF0
  by_cases h0 : er = 0
  · have hr : (er == 0) = true := by simpa using h0
    go_upto_region 3 with fail
    obtain ⟨V2, hV2⟩ : ∃ V2, V1.alloc (.cells #[.slice ga m gc, .int .i64 co, .int .i64 0] 42) = V2 := ⟨_, rfl⟩
    rw [hV2] at HF1 ⊢
    clear x0 x1 x2 x3 w0 w1 w2 w3 p0 p1 p2 p3 z0 z1 z2 hV2
    obtain ⟨x0, x1, x2, x3⟩ := four_of HF1.out.w
    obtain ⟨p0, p1, p2, p3⟩ := four_of HF1.out.r
    obtain ⟨r0, r1, r2, r3⟩ := four_fr HF1.out.r
    obtain ⟨V3, hV3⟩ : ∃ V3, (((V2.setCell ⟨W.heap.size + 1 + 1, 0, none⟩ (.int .i64 f)).setCell ⟨W.heap.size + 1 + 1, 1, none⟩ (.int .i64 d)).setCell ⟨W.heap.size + 1 + 1, 2, none⟩ (.slice a1 n1 c1)).setCell ⟨W.heap.size + 1 + 1, 3, none⟩ (.int .i64 o1) = V3 := ⟨_, rfl⟩
    have HF2 : Hid (Fh W V3 (cd f d a2 n2 c2 o2) (cd f d a1 n1 c1 o1) (cd f d a1 n1 c1 o1)) := hide (by rw [← hV3]; exact HF1.out.put (.int .i64 f) (.int .i64 d) (.slice a1 n1 c1) (.int .i64 o1))
    go_wp2_with fail
    obtain ⟨q0, q1, q2, q3⟩ := four_of HF2.out.r
    exact bodyPost_ret (v := .agg (cd f d a1 n1 c1 o1)) (by simp [results, Tryz.results24, go_sem, q0, q1, q2, q3]) rfl (.inl ⟨HEr.out.trans h0, rfl, HF2.out.lo⟩)
  · have hr : (er == 0) = false := by simpa using h0
    go_upto_region 4 with fail
    obtain ⟨V2, hV2⟩ : ∃ V2, V1.alloc (.cells #[.slice ga m gc, .int .i64 co, .int .i64 0] 42) = V2 := ⟨_, rfl⟩
    rw [hV2] at HF1 ⊢
    clear x0 x1 x2 x3 w0 w1 w2 w3 p0 p1 p2 p3 z0 z1 z2 hV2
    obtain ⟨x0, x1, x2, x3⟩ := four_of HF1.out.c
    have hbX : Below V2.heap.size V2 ((V2.alloc (.cells #[] 39)).drew) := bel (bel1 V2 (.cells #[] 39)) (below_drew _)
    have hOX : ((V2.alloc (.cells #[] 39)).drew).ownsRow W.heap.size 39 6 (.slice (some ⟨V2.heap.size, 0, none⟩) 0 0) 0 [] := ⟨rfl, .inr ⟨V2.heap.size, 0, #[], rfl, HF1.out.lo.size, heap_alloc_new V2 _, Nat.le_refl _, Nat.zero_le _, rfl, rfl⟩⟩
    have hFX := HF1.out.below hbX
    obtain ⟨ad, rfl⟩ : ∃ ad, a2 = some ad := by
      cases a2 with
      | none => have := (bytes_no HLI.out).1; omega
      | some ad => exact ⟨ad, rfl⟩
    have hLX := (HLI.out.later HF1.out.lo).later hbX
    have HNX := hide (hLX.news ad rfl)
    have HlX := hide (show (is6 L).length = n2 * 6 by rw [Cde.is6_len, HLI.out.len])
    have HOX := hide hOX
    have HsX := hide (show W.heap.size ≤ ((V2.alloc (.cells #[] 39)).drew).heap.size from hFX.lo.size)
    have HGX := hide fun V3 (hg : ((V2.alloc (.cells #[] 39)).drew).grownBy V3 (some V2.heap.size)) => (⟨own_grow hOX hg hFX.c (by decide), own_grow hOX hg hFX.w (by decide), own_grow hOX hg hFX.r (by decide), hFX.lo.grown hg hFX.lo.size fun k hk => (Cde.owns_block hOX k hk).1⟩ : Fh W V3 (cd f d (some ad) n2 c2 o2) (cd f d a1 n1 c1 o1) cdz)
    obtain ⟨y0, y1, y2, y3⟩ := four_of hFX.c
    clear hbX hOX hLX hFX
    go_region_held3 (fun w' => w'.cell? ⟨W.heap.size, 0, none⟩ = some (.int .i64 f) ∧ w'.cell? ⟨W.heap.size, 1, none⟩ = some (.int .i64 d) ∧ w'.cell? ⟨W.heap.size, 2, none⟩ = some (.slice (some ad) n2 c2) ∧ w'.cell? ⟨W.heap.size, 3, none⟩ = some (.int .i64 o2))
      (first | with_reducible exact ⟨x0, x1, x2, x3⟩ | with_reducible exact ⟨y0, y1, y2, y3⟩ | with_reducible exact ⟨k0, k1, k2, k3⟩ | with_reducible exact ⟨m0, m1, m2, m3⟩ | exact ⟨x0, x1, x2, x3⟩ | go_keep)
      ((refine cl_step (L := L) (by rfl) _ _ (by rfl) (by rfl) HOX.out HsX.out (by rfl) HlX.out HNX.out hn0 (by omega) ?_; intro g' c' V3 hO hg; have HF3 := hide (HGX.out V3 hg); obtain ⟨k0, k1, k2, k3⟩ := four_of HF3.out.c; obtain ⟨p0, p1, p2, p3⟩ := four_of HF3.out.r; obtain ⟨r0, r1, r2, r3⟩ := four_fr HF3.out.r; have hp := HF3.out.put (.int .i64 f) (.int .i64 d) (.slice (some ⟨g', 0, none⟩) n2 c') (.int .i64 o2); unfold s4 at hp; obtain ⟨m0, m1, m2, m3⟩ := four_of hp.c))
    all_goals
      have HO3 := hide hO
      clear k0 k1 k2 k3 p0 p1 p2 p3 r0 r1 r2 r3 m0 m1 m2 m3 hp hO hg HOX HsX HlX HNX HGX x0 x1 x2 x3 y0 y1 y2 y3
      have hq := own_ne HO3.out HF3.out.r (by decide)
      have HO4 := hide (s4_own HO3.out hq (.int .i64 f) (.int .i64 d) (.slice (some ⟨g', 0, none⟩) n2 c') (.int .i64 o2))
      have HF4 := hide (HF3.out.put (.int .i64 f) (.int .i64 d) (.slice (some ⟨g', 0, none⟩) n2 c') (.int .i64 o2))
      obtain ⟨V4, hV4⟩ : ∃ V4, (((V3.setCell ⟨W.heap.size + 1 + 1, 0, none⟩ (.int .i64 f)).setCell ⟨W.heap.size + 1 + 1, 1, none⟩ (.int .i64 d)).setCell ⟨W.heap.size + 1 + 1, 2, none⟩ (.slice (some ⟨g', 0, none⟩) n2 c')).setCell ⟨W.heap.size + 1 + 1, 3, none⟩ (.int .i64 o2) = V4 := ⟨_, rfl⟩
      unfold s4 at HO4 HF4
      rw [hV4] at HO4 HF4 ⊢
      clear hV4 hq HF3 HO3
      go_wp2_with fail
      obtain ⟨q0, q1, q2, q3⟩ := four_of HF4.out.r
      exact bodyPost_ret (v := .agg (cd f d (some ⟨g', 0, none⟩) n2 c' o2)) (by simp [results, Tryz.results24, go_sem, q0, q1, q2, q3]) rfl (.inr ⟨by rw [HEr.out]; exact h0, _, _, rfl, HO4.out, HF4.out.lo⟩)

end Go.Proofs.Fld

/-
  The document's Fold, plainly: its steps are the program's.
-/
namespace Go.Proofs.Fld
open Go.RowKit Go.IntWalk YtjfcdfjegjplhaaGreat.Knd
open YtjfcdfjegjplhaaGreat (Wd wdA Fits inpV)
open Cde (In i0 agL arN okI okT mcB csB rgN rgs rgB vlS vlI)
open Vfy (vfE vf_parts)
set_option linter.unusedVariables false

theorem th_need {n : In} {k : Nat} (h : okI n k = true) : ThOk n k := by
  simp only [okI, rgs, Bool.and_eq_true, rg_in, decide_eq_true_eq] at h
  exact ⟨h.1.2.1.1.1, h.1.2.1.2.1, h.1.2.2.1⟩
theorem fs_two : ∀ L : List (Bool × Int), (∀ o, fsZ o L = o) ∨ ∃ z, ∀ o, fsZ o L = z
  | [] => .inl fun _ => rfl
  | p :: L => by
    by_cases hp : p.1 = true
    · exact .inr ⟨p.2, fun o => by rw [fsZ, if_pos hp]⟩
    · rcases fs_two L with h | ⟨z, h⟩
      · exact .inl fun o => by rw [fsZ, if_neg hp]; exact h o
      · exact .inr ⟨z, fun o => by rw [fsZ, if_neg hp]; exact h o⟩
/-- Where the document finds no register, the own one stands. -/
theorem fo_reg {f d : Int} {L : List In} {out : Int} (h : vfE f d L out = 0) {k : Nat} (hk : k < L.length) :
    (fsZ (-1) (lnZ (foF f d (L.take k)).1 (thI (L.getD k i0) (foF f d (L.take k)).2)) = -1 ∧ fsZ k (lnZ (foF f d (L.take k)).1 (thI (L.getD k i0) (foF f d (L.take k)).2)) = k) ∨
    (0 ≤ fsZ (-1) (lnZ (foF f d (L.take k)).1 (thI (L.getD k i0) (foF f d (L.take k)).2)) ∧ fsZ k (lnZ (foF f d (L.take k)).1 (thI (L.getD k i0) (foF f d (L.take k)).2)) = fsZ (-1) (lnZ (foF f d (L.take k)).1 (thI (L.getD k i0) (foF f d (L.take k)).2))) := by
  rcases fs_two (lnZ (foF f d (L.take k)).1 (thI (L.getD k i0) (foF f d (L.take k)).2)) with h1 | ⟨z, h1⟩
  · exact .inl ⟨h1 _, h1 _⟩
  · refine .inr ⟨?_, by rw [h1, h1]⟩
    rw [h1]
    obtain ⟨m, ha2, ⟨S, hS, -, -⟩, -, -, -⟩ := vf_parts h
    obtain ⟨hm, -, -, -, -, hok⟩ := Cde.mc_parts m
    obtain ⟨V, hV⟩ := fo_all h (wd0_fits hm) k (by omega)
    obtain ⟨V2, hV2⟩ := fo_all h (wd0_fits hm) (k + 1) (by omega)
    have ho := Cde.okT_at hok hk
    have hl := (foF_len f d L k (by omega)).1
    have e := hV2.val
    rw [Cde.take_snoc i0 hk, Cde.vlF_snoc, hV.val, vlS, if_pos rfl] at e
    by_cases hz : (vlI f d (wd0 f d) V (L.getD k i0)).2 = 0
    · have hx : vlI f d (wd0 f d) V (thI (L.getD k i0) (foF f d (L.take k)).2) = ((vlI f d (wd0 f d) V (L.getD k i0)).1, 0) := by
        rw [th_vl hV.st ho]; exact Prod.ext rfl hz
      rcases fs_val hV.rv (by rw [hl]; exact th_ok hV.st ho) hx (z + 1) with e1 | ⟨e1, -⟩
      · rw [h1] at e1; omega
      · rw [h1] at e1; exact e1.1
    · rw [if_neg hz] at e
      exact absurd (congrArg Prod.fst e) hz
theorem ar_low {m : In} {k : Nat} (ho : okI m k = true) (h : ¬ 0 < ar m.op) : m.op = 1 ∨ m.op = 2 ∨ m.op = 3 := by
  have h1 : 0 ≤ ar m.op := Cde.ok_ar ho
  have h2 : YtjfcdfjegjplhaaGreat.Spn.ar m.op = 0 := by have e : ar m.op = YtjfcdfjegjplhaaGreat.Spn.ar m.op := rfl; omega
  unfold YtjfcdfjegjplhaaGreat.Spn.ar at h2
  split at h2
  · assumption
  · repeat' split at h2
    all_goals omega
/-- An input that is known. -/
theorem kn_in {f d : Int} {M : List In} {m : In} {k : Nat} (ho : okI m k = true) (h2 : m.op = 2) (h3 : 3 ≤ m.k) : (m.k = 3 ∧ knZ f d M m = (lowZ f d, true)) ∨ (m.k = 4 ∧ knZ f d M m = (highZ f d, true)) ∨ (m.k = 5 ∧ knZ f d M m = (borderZ f d, true)) := by
  have hc := Cde.ok_con ho
  rw [csB, if_neg (by rw [h2]; decide), if_pos h2, Bool.and_eq_true, YtjfcdfjegjplhaaGreat.Spn.inB_iff] at hc
  rcases (show m.k = 3 ∨ m.k = 4 ∨ m.k = 5 by omega) with e | e | e
  · exact .inl ⟨e, by simp [knZ, bnZ, h2, e]⟩
  · exact .inr (.inl ⟨e, by simp [knZ, bnZ, h2, e]⟩)
  · exact .inr (.inr ⟨e, by simp [knZ, bnZ, h2, e]⟩)
/-- An instruction that reads no register, and is no such input, stays. -/
theorem kn_low {f d : Int} {M : List In} {m : In} {k : Nat} (ho : okI m k = true) (h : ¬ 0 < ar m.op) (h2 : ¬ (m.op = 2 ∧ 3 ≤ m.k)) : (∃ x, knZ f d M m = (x, false)) ∧ lnZ M m = [] := by
  have h3 := ar_low ho h
  have e1 : (bnZ f d m).2 = false := by
    unfold bnZ
    by_cases e : m.op = 2
    · rw [if_pos e]
      have : ¬ 3 ≤ m.k := fun h => h2 ⟨e, h⟩
      rw [if_neg (by omega), if_neg (by omega), if_neg (by omega)]
    · rw [if_neg e]
  have e2 : (rkZ M m).2 = false := rk_none (by omega)
  have e3 : (stZ M m).2 = false := by rcases h3 with e | e | e <;> simp [stZ, e]
  refine ⟨⟨(stZ M m).1, ?_⟩, by rcases h3 with e | e | e <;> simp [lnZ, e]⟩
  unfold knZ
  rw [e1, if_neg (by decide), e2, if_neg (by decide)]
  exact Prod.ext rfl e3
theorem bn_op {f d : Int} {m : In} (h : 0 < ar m.op) : (bnZ f d m).2 = false := by
  have : m.op ≠ 2 := fun e => by rw [e] at h; exact absurd h (by decide)
  unfold bnZ
  rw [if_neg this]
theorem kn_all {f d : Int} {M : List In} {m : In} {x : Int} (h : 0 < ar m.op) (hr : rkZ M m = (x, true)) : knZ f d M m = (x, true) := by
  unfold knZ
  rw [bn_op h, if_neg (by decide), hr, if_pos rfl]
theorem kn_st {f d : Int} {M : List In} {m : In} (h : 0 < ar m.op) (hr : alN M m = false) : knZ f d M m = stZ M m := by
  have e : (rkZ M m).2 = false := by rw [rkZ, if_neg (by rw [hr]; decide)]
  unfold knZ
  rw [bn_op h, if_neg (by decide), e, if_neg (by decide)]

end Go.Proofs.Fld
