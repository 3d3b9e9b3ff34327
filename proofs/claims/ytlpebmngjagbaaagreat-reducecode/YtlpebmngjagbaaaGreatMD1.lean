/-
  The document's Through and Taken.
-/
import Derived.Test.YtlpebmngjagbaaaGreatMUC
import Derived.Test.YtlpebmngjagbaaaGreatMF2
import Derived.Test.YtlpebmngjagbaaaGreatMYL
import Derived.Test.YtlpebmngjagbaaaGreatMSqA
import Derived.Deep.AppendLies
namespace Go.Proofs.Rdc
open Go.RowKit Go.IntWalk YtlpebmngjagbaaaGreat.Knd
open Cde (In i0 ia kd cd Ins at6 six_of four_of two_of has_new1 okI okT below_drew is6 i6 rgs rgB)
open Fld (ar In1 exR thI th_0 th_1 th_2 th_3 rg_in)
open Vfy (vfE vfN vfC)
set_option linter.unusedVariables false

theorem cell_bel {V V' : World} {g o : Nat} {v : Value} (hb : Below V.heap.size V V') (h : V.cell? ⟨g, o, none⟩ = some v) (hg : g < V.heap.size) : V'.cell? ⟨g, o, none⟩ = some v := (hb.cell (p := ⟨g, o, none⟩) hg).trans h
/-- What the document's Through asks: the registers that are read stand in the list. -/
def ThOk (n : In) (m : Nat) : Prop := (0 < ar n.op → In1 n.a m) ∧ (1 < ar n.op → In1 n.b m) ∧ (2 < ar n.op → In1 n.c m)
theorem ex_get {T : List Int} {m : Nat} (hl : T.length = m) {r : Int} (h : In1 r m) : exR T r = T.getD r.toNat 0 := by
  unfold exR
  rw [if_neg (by have := h.1; have := h.2; omega)]

set_option maxRecDepth 100000 in
set_option maxHeartbeats 8000000 in
theorem gthrough_any (n : In) {a : Option Addr} {m cap : Nat} {T : List Int} {W : World} (hT : Ints W a m cap T) (hk : ThOk n m) :
    Calls Tryz.prog 16 #[.agg (ia n), .slice a m cap] W fun e W' => e = .returned (.agg (ia (thI n T))) ∧ Below W.heap.size W W' := by
  have HA := hide fun W => YtlpebmngjagbaaaGreat.Spn.rarity_any n.op W
  have hs : m ≤ 9223372036854775807 := by have := hT.le; have := hT.max; unfold maxLen at this; omega
  have hl := hT.len
  have hbb := bel (bel1 W (.cells (ia n) 39)) (bel1 (W.alloc (.cells (ia n) 39)) (.cells (ia i0) 39))
  have hge := fun (h0 : m ≠ 0) => hT.at h0
  obtain ⟨k1, k2, k3⟩ := hk
  rcases Cde.ar_five n.op with h | h | h | h | h
  · rw [th_0 (by rw [ar, h]; decide)]
    rw [h] at HA
    clear h k1 k2 k3 hge
    go_enter Tryz.func16, Tryz.ntmps16
    go_wp2_with (go_at_call 35; refine (HA.out _).mono ?_; rintro e w' ⟨rfl, rfl⟩)
    exact bodyPost_ret (v := .agg (ia _)) (by simp [results, Tryz.results16, go_sem]) rfl ⟨rfl, bel (bel1 W _) (bel1 _ _)⟩
  · rw [th_0 (by rw [ar, h]; decide)]
    rw [h] at HA
    clear h k1 k2 k3 hge
    go_enter Tryz.func16, Tryz.ntmps16
    go_wp2_with (go_at_call 35; refine (HA.out _).mono ?_; rintro e w' ⟨rfl, rfl⟩)
    exact bodyPost_ret (v := .agg (ia _)) (by simp [results, Tryz.results16, go_sem]) rfl ⟨rfl, bel (bel1 W _) (bel1 _ _)⟩
  · have i1 := k1 (by rw [ar, h]; decide)
    rw [th_1 h, ex_get hl i1]
    rw [h] at HA
    obtain ⟨na, hna⟩ : ∃ q : Nat, n.a = q := ⟨n.a.toNat, by have := i1.1; omega⟩
    have l1 : na < m := by have := i1.2; omega
    obtain ⟨b, off, rfl, hblt, hc⟩ := hge (by omega)
    have c1 := hc na l1
    obtain ⟨op, xa, xb, xc, xk, xs⟩ := n
    dsimp only at *
    subst hna
    simp only [Int.toNat_natCast]
    have pa : (0 : Int) ≤ na := by omega
    have qa : (na : Int) < m := by omega
    generalize T.getD na 0 = z1 at *
    clear h k1 k2 k3 hge hc i1 hT hl
    go_enter Tryz.func16, Tryz.ntmps16
    go_wp2_with (go_at_call 35; refine (HA.out _).mono ?_; rintro e w' ⟨rfl, rfl⟩)
    exact bodyPost_ret (v := .agg (ia _)) (by simp [results, Tryz.results16, go_sem]) rfl ⟨rfl, bel (bel1 W _) (bel1 _ _)⟩
  · have i1 := k1 (by rw [ar, h]; decide)
    have i2 := k2 (by rw [ar, h]; decide)
    rw [th_2 h, ex_get hl i1, ex_get hl i2]
    rw [h] at HA
    obtain ⟨na, hna⟩ : ∃ q : Nat, n.a = q := ⟨n.a.toNat, by have := i1.1; omega⟩
    have l1 : na < m := by have := i1.2; omega
    obtain ⟨nb, hnb⟩ : ∃ q : Nat, n.b = q := ⟨n.b.toNat, by have := i2.1; omega⟩
    have l2 : nb < m := by have := i2.2; omega
    obtain ⟨b, off, rfl, hblt, hc⟩ := hge (by omega)
    have c1 := hc na l1
    have c2 := hc nb l2
    obtain ⟨op, xa, xb, xc, xk, xs⟩ := n
    dsimp only at *
    subst hna hnb
    simp only [Int.toNat_natCast]
    have pa : (0 : Int) ≤ na := by omega
    have qa : (na : Int) < m := by omega
    generalize T.getD na 0 = z1 at *
    have pb : (0 : Int) ≤ nb := by omega
    have qb : (nb : Int) < m := by omega
    generalize T.getD nb 0 = z2 at *
    clear h k1 k2 k3 hge hc i1 i2 hT hl
    go_enter Tryz.func16, Tryz.ntmps16
    go_wp2_with (go_at_call 35; refine (HA.out _).mono ?_; rintro e w' ⟨rfl, rfl⟩)
    exact bodyPost_ret (v := .agg (ia _)) (by simp [results, Tryz.results16, go_sem]) rfl ⟨rfl, bel (bel1 W _) (bel1 _ _)⟩
  · have i1 := k1 (by rw [ar, h]; decide)
    have i2 := k2 (by rw [ar, h]; decide)
    have i3 := k3 (by rw [ar, h]; decide)
    rw [th_3 h, ex_get hl i1, ex_get hl i2, ex_get hl i3]
    rw [h] at HA
    obtain ⟨na, hna⟩ : ∃ q : Nat, n.a = q := ⟨n.a.toNat, by have := i1.1; omega⟩
    have l1 : na < m := by have := i1.2; omega
    obtain ⟨nb, hnb⟩ : ∃ q : Nat, n.b = q := ⟨n.b.toNat, by have := i2.1; omega⟩
    have l2 : nb < m := by have := i2.2; omega
    obtain ⟨nc, hnc⟩ : ∃ q : Nat, n.c = q := ⟨n.c.toNat, by have := i3.1; omega⟩
    have l3 : nc < m := by have := i3.2; omega
    obtain ⟨b, off, rfl, hblt, hc⟩ := hge (by omega)
    have c1 := hc na l1
    have c2 := hc nb l2
    have c3 := hc nc l3
    obtain ⟨op, xa, xb, xc, xk, xs⟩ := n
    dsimp only at *
    subst hna hnb hnc
    simp only [Int.toNat_natCast]
    have pa : (0 : Int) ≤ na := by omega
    have qa : (na : Int) < m := by omega
    generalize T.getD na 0 = z1 at *
    have pb : (0 : Int) ≤ nb := by omega
    have qb : (nb : Int) < m := by omega
    generalize T.getD nb 0 = z2 at *
    have pc : (0 : Int) ≤ nc := by omega
    have qc : (nc : Int) < m := by omega
    generalize T.getD nc 0 = z3 at *
    clear h k1 k2 k3 hge hc i1 i2 i3 hT hl
    go_enter Tryz.func16, Tryz.ntmps16
    go_wp2_with (go_at_call 35; refine (HA.out _).mono ?_; rintro e w' ⟨rfl, rfl⟩)
    exact bodyPost_ret (v := .agg (ia _)) (by simp [results, Tryz.results16, go_sem]) rfl ⟨rfl, bel (bel1 W _) (bel1 _ _)⟩


theorem th_need {n : In} {k : Nat} (h : okI n k = true) : ThOk n k := by
  simp only [okI, rgs, Bool.and_eq_true, rg_in, decide_eq_true_eq] at h
  exact ⟨h.1.2.1.1.1, h.1.2.1.2.1, h.1.2.2.1⟩

/-- All instructions appended to an empty list, at a step of a region that draws. -/
theorem cl_step {V : World} {base b0 : Nat} {L : List In} {n c : Nat} {ad : Addr} {ops : Array Oper} {o : Oper} {a : Act} {K : Act → World → Prop} {Q : Exit → Act → World → Prop} {E : Prop}
    (hgd : o.guard = none) (s x : Operand) (ho : o.op = .call { callee := .builtin .append, args := #[s, x], argTypes := #[24, 24] })
    (hs : a.eval s = .slice (some ⟨b0, 0, none⟩) 0 0) (hen : V.ownsRow base 39 6 (.slice (some ⟨b0, 0, none⟩) 0 0) 0 []) (hbase : base ≤ V.heap.size) (hx : a.eval x = .slice (some ad) n c) (hl : (is6 L).length = n * 6)
    (hN : ∀ j u, (is6 L)[j]? = some u → V.cell? (ad.add j) = some u) (hn0 : 0 < n) (h3 : n ≤ 2000000)
    (h : ∀ g cap w', w'.ownsRow base 39 6 (.slice (some ⟨g, 0, none⟩) n cap) n (is6 L) → V.grownBy w' (some b0) → K (a.put o.dst (.slice (some ⟨g, 0, none⟩) n cap)) w') :
    if Region.wanted o (yielded ops a.tmps) = true then Oper.wp Tryz.prog o a V K Q else E := by
  obtain ⟨i0', hi0, hz0, hz1, hz2⟩ := YtlpebmngjagbaaaGreat.Spn.info_parts infoI
  refine step_append_lies V hgd s x 24 ho base 39 i0' _ 6 48 Tryz.underlying24 hi0 hz0 hz1 hz2 rfl (by omega) (.slice (some ⟨b0, 0, none⟩) 0 0) 0 [] hs hen ad n c (is6 L) hx hl hN (Cde.is6_one L) hn0 (by unfold maxLen; omega) (by omega) hbase V.heap.size rfl ?_
  intro g cap w' hown hgrow hat hlt
  rw [Nat.zero_add, List.nil_append] at hown
  rw [Nat.zero_add]
  exact h g cap w' hown hgrow

set_option maxRecDepth 100000 in
set_option maxHeartbeats 8000000 in
theorem gtaken_any (f d o1 o2 : Int) {a1 a2 : Option Addr} {n1 n2 c1 c2 : Nat} {M L : List In} {W : World} (hM : Ins W a1 n1 c1 M) (hL : Ins W a2 n2 c2 L) (hn0 : 0 < n2) (hn : n2 ≤ 1000) :
    Calls Tryz.prog 17 #[.agg (cd f d a2 n2 c2 o2), .agg (cd f d a1 n1 c1 o1)] W fun e W' =>
      (vfE f d M o1 = 0 ∧ e = .returned (.agg (cd f d a1 n1 c1 o1)) ∧ Below W.heap.size W W') ∨
      (vfE f d M o1 ≠ 0 ∧ ∃ a' c', e = .returned (.agg (cd f d a' n2 c' o2)) ∧ W'.ownsRow W.heap.size 39 6 (.slice a' n2 c') n2 (is6 L) ∧ Below W.heap.size W W') := by
  have b1 := bel1 W (.cells (cd f d a2 n2 c2 o2) 26)
  have b2 := bel b1 (bel1 _ (.cells (cd f d a1 n1 c1 o1) 26))
  have b3 := bel b2 (bel1 _ (.cells cdz 26))
  have h3 := HasC.new ((W.alloc (.cells (cd f d a2 n2 c2 o2) 26)).alloc (.cells (cd f d a1 n1 c1 o1) 26)) 26 cdz
  rw [World.size_alloc, World.size_alloc] at h3
  have HF0 : Hid (Fh W (((W.alloc (.cells (cd f d a2 n2 c2 o2) 26)).alloc (.cells (cd f d a1 n1 c1 o1) 26)).alloc (.cells cdz 26)) (cd f d a2 n2 c2 o2) (cd f d a1 n1 c1 o1) cdz) :=
    hide ⟨((HasC.new W 26 (cd f d a2 n2 c2 o2)).alloc (.cells (cd f d a1 n1 c1 o1) 26)).alloc (.cells cdz 26), (has_new1 W (.cells (cd f d a2 n2 c2 o2) 26) 26 (cd f d a1 n1 c1 o1)).alloc (.cells cdz 26), h3, b3⟩
  have HV := hide (Vfy.jverify_any f d o1 (hM.later b3))
  have HLI := hide hL
  clear b1 b2 b3 h3 hM hL
  go_enter Tryz.func17, Tryz.ntmps17
  go_wp2_with fail
  refine HV.out.mono ?_
  rintro e V1 ⟨ga, gc, rfl, hS, hb, -, -⟩
  obtain ⟨m, hm⟩ : ∃ m, vfN f d M o1 = m := ⟨_, rfl⟩
  obtain ⟨co, hco⟩ : ∃ co, vfC f d M o1 = co := ⟨_, rfl⟩
  obtain ⟨er, her⟩ : ∃ er, vfE f d M o1 = er := ⟨_, rfl⟩
  rw [hm, hco, her]
  have HEr := hide her
  have hb2 := bel1 V1 (.cells #[.slice ga m gc, .int .i64 co, .int .i64 0] 42)
  have HF1 := hide ((HF0.out.below hb).below hb2)
  obtain ⟨x0, x1, x2, x3⟩ := four_of (HF0.out.below hb).c
  obtain ⟨w0, w1, w2, w3⟩ := four_of (HF0.out.below hb).w
  obtain ⟨p0, p1, p2, p3⟩ := four_of (HF0.out.below hb).r
  have z0 := (HF0.out.below hb).c.lt
  have z1 := (HF0.out.below hb).w.lt
  have z2 := (HF0.out.below hb).r.lt
  clear hm hco her hb hb2 hS HV HF0
  by_cases h0 : er = 0
  · have hr : (er == 0) = true := by simpa using h0
    go_upto_region 3 with fail
    obtain ⟨V2, hV2⟩ : ∃ V2, V1.alloc (.cells #[.slice ga m gc, .int .i64 co, .int .i64 0] 42) = V2 := ⟨_, rfl⟩
    rw [hV2] at HF1 ⊢
    clear x0 x1 x2 x3 w0 w1 w2 w3 p0 p1 p2 p3 z0 z1 z2 hV2
    obtain ⟨x0, x1, x2, x3⟩ := four_of HF1.out.w
    obtain ⟨p0, p1, p2, p3⟩ := four_of HF1.out.r
    obtain ⟨r0, r1, r2, r3⟩ := four_fr HF1.out.r
    obtain ⟨V3, hV3⟩ : ∃ V3, (((V2.setCell ⟨W.heap.size + 1 + 1, 0, none⟩ (.int .i64 f)).setCell ⟨W.heap.size + 1 + 1, 1, none⟩ (.int .i64 d)).setCell ⟨W.heap.size + 1 + 1, 2, none⟩ (.slice a1 n1 c1)).setCell ⟨W.heap.size + 1 + 1, 3, none⟩ (.int .i64 o1) = V3 := ⟨_, rfl⟩
    have HF2 : Hid (Fh W V3 (cd f d a2 n2 c2 o2) (cd f d a1 n1 c1 o1) (cd f d a1 n1 c1 o1)) := hide (by rw [← hV3]; exact HF1.out.put (.int .i64 f) (.int .i64 d) (.slice a1 n1 c1) (.int .i64 o1))
    go_wp2_with fail
    obtain ⟨q0, q1, q2, q3⟩ := four_of HF2.out.r
    exact bodyPost_ret (v := .agg (cd f d a1 n1 c1 o1)) (by simp [results, Tryz.results17, go_sem, q0, q1, q2, q3]) rfl (.inl ⟨HEr.out.trans h0, rfl, HF2.out.lo⟩)
  · have hr : (er == 0) = false := by simpa using h0
    go_upto_region 4 with fail
    obtain ⟨V2, hV2⟩ : ∃ V2, V1.alloc (.cells #[.slice ga m gc, .int .i64 co, .int .i64 0] 42) = V2 := ⟨_, rfl⟩
    rw [hV2] at HF1 ⊢
    clear x0 x1 x2 x3 w0 w1 w2 w3 p0 p1 p2 p3 z0 z1 z2 hV2
    obtain ⟨x0, x1, x2, x3⟩ := four_of HF1.out.c
    have hbX : Below V2.heap.size V2 ((V2.alloc (.cells #[] 39)).drew) := bel (bel1 V2 (.cells #[] 39)) (below_drew _)
    have hOX : ((V2.alloc (.cells #[] 39)).drew).ownsRow W.heap.size 39 6 (.slice (some ⟨V2.heap.size, 0, none⟩) 0 0) 0 [] := ⟨rfl, .inr ⟨V2.heap.size, 0, #[], rfl, HF1.out.lo.size, heap_alloc_new V2 _, Nat.le_refl _, Nat.zero_le _, rfl, rfl⟩⟩
    have hFX := HF1.out.below hbX
    obtain ⟨ad, rfl⟩ : ∃ ad, a2 = some ad := by
      cases a2 with
      | none => have := (bytes_no HLI.out).1; omega
      | some ad => exact ⟨ad, rfl⟩
    have hLX := (HLI.out.later HF1.out.lo).later hbX
    have HNX := hide (hLX.news ad rfl)
    have HlX := hide (show (is6 L).length = n2 * 6 by rw [Cde.is6_len, HLI.out.len])
    have HOX := hide hOX
    have HsX := hide (show W.heap.size ≤ ((V2.alloc (.cells #[] 39)).drew).heap.size from hFX.lo.size)
    have HGX := hide fun V3 (hg : ((V2.alloc (.cells #[] 39)).drew).grownBy V3 (some V2.heap.size)) => (⟨own_grow hOX hg hFX.c (by decide), own_grow hOX hg hFX.w (by decide), own_grow hOX hg hFX.r (by decide), hFX.lo.grown hg hFX.lo.size fun k hk => (Cde.owns_block hOX k hk).1⟩ : Fh W V3 (cd f d (some ad) n2 c2 o2) (cd f d a1 n1 c1 o1) cdz)
    obtain ⟨y0, y1, y2, y3⟩ := four_of hFX.c
    clear hbX hOX hLX hFX
    go_region_held3 (fun w' => w'.cell? ⟨W.heap.size, 0, none⟩ = some (.int .i64 f) ∧ w'.cell? ⟨W.heap.size, 1, none⟩ = some (.int .i64 d) ∧ w'.cell? ⟨W.heap.size, 2, none⟩ = some (.slice (some ad) n2 c2) ∧ w'.cell? ⟨W.heap.size, 3, none⟩ = some (.int .i64 o2))
      (first | with_reducible exact ⟨x0, x1, x2, x3⟩ | with_reducible exact ⟨y0, y1, y2, y3⟩ | with_reducible exact ⟨k0, k1, k2, k3⟩ | with_reducible exact ⟨m0, m1, m2, m3⟩ | exact ⟨x0, x1, x2, x3⟩ | go_keep)
      ((refine cl_step (L := L) (by rfl) _ _ (by rfl) (by rfl) HOX.out HsX.out (by rfl) HlX.out HNX.out hn0 (by omega) ?_; intro g' c' V3 hO hg; have HF3 := hide (HGX.out V3 hg); obtain ⟨k0, k1, k2, k3⟩ := four_of HF3.out.c; obtain ⟨p0, p1, p2, p3⟩ := four_of HF3.out.r; obtain ⟨r0, r1, r2, r3⟩ := four_fr HF3.out.r; have hp := HF3.out.put (.int .i64 f) (.int .i64 d) (.slice (some ⟨g', 0, none⟩) n2 c') (.int .i64 o2); unfold s4 at hp; obtain ⟨m0, m1, m2, m3⟩ := four_of hp.c))
    all_goals
      have HO3 := hide hO
      clear k0 k1 k2 k3 p0 p1 p2 p3 r0 r1 r2 r3 m0 m1 m2 m3 hp hO hg HOX HsX HlX HNX HGX x0 x1 x2 x3 y0 y1 y2 y3
      have hq := own_ne HO3.out HF3.out.r (by decide)
      have HO4 := hide (s4_own HO3.out hq (.int .i64 f) (.int .i64 d) (.slice (some ⟨g', 0, none⟩) n2 c') (.int .i64 o2))
      have HF4 := hide (HF3.out.put (.int .i64 f) (.int .i64 d) (.slice (some ⟨g', 0, none⟩) n2 c') (.int .i64 o2))
      obtain ⟨V4, hV4⟩ : ∃ V4, (((V3.setCell ⟨W.heap.size + 1 + 1, 0, none⟩ (.int .i64 f)).setCell ⟨W.heap.size + 1 + 1, 1, none⟩ (.int .i64 d)).setCell ⟨W.heap.size + 1 + 1, 2, none⟩ (.slice (some ⟨g', 0, none⟩) n2 c')).setCell ⟨W.heap.size + 1 + 1, 3, none⟩ (.int .i64 o2) = V4 := ⟨_, rfl⟩
      unfold s4 at HO4 HF4
      rw [hV4] at HO4 HF4 ⊢
      clear hV4 hq HF3 HO3
      go_wp2_with fail
      obtain ⟨q0, q1, q2, q3⟩ := four_of HF4.out.r
      exact bodyPost_ret (v := .agg (cd f d (some ⟨g', 0, none⟩) n2 c' o2)) (by simp [results, Tryz.results17, go_sem, q0, q1, q2, q3]) rfl (.inr ⟨by rw [HEr.out]; exact h0, _, _, rfl, HO4.out, HF4.out.lo⟩)


theorem own_cell_at {V : World} {base b2 o2 k c : Nat} {T : List Int} (h : V.ownsRow base 3 1 (.slice (some ⟨b2, o2, none⟩) k c) T.length (i64s T)) (hk : T.length = k) {o : Nat} (ho : o < k) {z : Int} (hz : T.getD o 0 = z) : V.cell? ⟨b2, o2 + o, none⟩ = some (.int .i64 z) := by
  obtain ⟨a', c', e, hi, -⟩ := Ints.of_owns h
  cases e
  rw [hk] at hi
  obtain ⟨b, off, e, -, hat⟩ := hi.at (by omega)
  cases e
  rw [← hz]
  exact hat o ho
/-- What Taken makes of it, in one form. -/
theorem gtaken_one {f d out : Int} {a1 a2 : Option Addr} {m n c1 c2 : Nat} {L : List In} {W : World} (hL : L.length = n) (hm : (rdN f d L out).length = m) (hO : W.ownsRow 0 39 6 (.slice a1 m c1) m (is6 (rdN f d L out))) (hI : Ins W a2 n c2 L) (hn0 : 0 < n) (hn : n ≤ 1000) :
    Calls Tryz.prog 17 #[.agg (cd f d a2 n c2 out), .agg (cd f d a1 m c1 (rdO f d L out))] W fun e W' => ∃ a' l c', (rxL f d L out).length = l ∧ e = .returned (.agg (cd f d a' l c' (rxO f d L out))) ∧ (∀ base, W.ownsRow base 39 6 (.slice a1 m c1) m (is6 (rdN f d L out)) → base ≤ W.heap.size → W'.ownsRow base 39 6 (.slice a' l c') l (is6 (rxL f d L out))) ∧ Below W.heap.size W W' := by
  obtain ⟨a', c', e', hM, -⟩ := Ins.of_owns hO
  cases e'
  refine (gtaken_any f d (rdO f d L out) out hM hI hn0 hn).mono ?_
  rintro e W' (⟨h0, rfl, hb⟩ | ⟨h0, a', c', rfl, ho, hb⟩)
  · exact ⟨_, m, _, by rw [rxL, if_pos h0]; exact hm, by rw [rxO, if_pos h0], fun base h _ => by rw [rxL, if_pos h0]; exact Cde.own_later h hb, hb⟩
  · exact ⟨_, n, _, by rw [rxL, if_neg h0]; exact hL, by rw [rxO, if_neg h0], fun base _ h => by rw [rxL, if_neg h0]; exact Cde.own_mono ho h, hb⟩

end Go.Proofs.Rdc
