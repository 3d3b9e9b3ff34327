/-
  The document's Through and Taken.
-/
import Derived.Test.YtncdekefhonljaaGreatMG5
import Derived.Test.YtncdekefhonljaaGreatMF2
import Derived.Test.YtncdekefhonljaaGreatMYL
import Derived.Test.YtncdekefhonljaaGreatMSqA
import Derived.Deep.AppendLies
import Derived.Test.YtncdekefhonljaaGreatMG2d
import Derived.Test.YtncdekefhonljaaGreatMCdE
import Derived.Deep.RegionHeld3
namespace Go.Proofs.Shr
open Go.RowKit Go.IntWalk YtncdekefhonljaaGreat.Knd
open Cde (In i0 ia kd cd Ins at6 six_of four_of two_of has_new1 okI okT below_drew is6 i6 rgs rgB)
open Fld (ar In1 exR thI th_0 th_1 th_2 th_3 rg_in)
open Vfy (vfE vfN vfC)
set_option linter.unusedVariables false

theorem cell_bel {V V' : World} {g o : Nat} {v : Value} (hb : Below V.heap.size V V') (h : V.cell? ⟨g, o, none⟩ = some v) (hg : g < V.heap.size) : V'.cell? ⟨g, o, none⟩ = some v := (hb.cell (p := ⟨g, o, none⟩) hg).trans h
/-- What the document's Through asks: the registers that are read stand in the list. -/
def ThOk (n : In) (m : Nat) : Prop := (0 < ar n.op → In1 n.a m) ∧ (1 < ar n.op → In1 n.b m) ∧ (2 < ar n.op → In1 n.c m)
theorem ex_get {T : List Int} {m : Nat} (hl : T.length = m) {r : Int} (h : In1 r m) : exR T r = T.getD r.toNat 0 := by
  unfold exR
  rw [if_neg (by have := h.1; have := h.2; omega)]

set_option maxRecDepth 100000 in
set_option maxHeartbeats 8000000 in
theorem gthrough_any (n : In) {a : Option Addr} {m cap : Nat} {T : List Int} {W : World} (hT : Ints W a m cap T) (hk : ThOk n m) :
    Calls Tryz.prog 16 #[.agg (ia n), .slice a m cap] W fun e W' => e = .returned (.agg (ia (thI n T))) ∧ Below W.heap.size W W' := by
  have HA := hide fun W => YtncdekefhonljaaGreat.Spn.rarity_any n.op W
  have hs : m ≤ 9223372036854775807 := by have := hT.le; have := hT.max; unfold maxLen at this; omega
  have hl := hT.len
  have hbb := bel (bel1 W (.cells (ia n) 39)) (bel1 (W.alloc (.cells (ia n) 39)) (.cells (ia i0) 39))
  have hge := fun (h0 : m ≠ 0) => hT.at h0
  obtain ⟨k1, k2, k3⟩ := hk
  rcases Cde.ar_five n.op with h | h | h | h | h
  · rw [th_0 (by rw [ar, h]; decide)]
    rw [h] at HA
    clear h k1 k2 k3 hge
    go_enter Tryz.func16, Tryz.ntmps16
    go_wp2_with (go_at_call 30; refine (HA.out _).mono ?_; rintro e w' ⟨rfl, rfl⟩)
    exact bodyPost_ret (v := .agg (ia _)) (by simp [results, Tryz.results16, go_sem]) rfl ⟨rfl, bel (bel1 W _) (bel1 _ _)⟩
  · rw [th_0 (by rw [ar, h]; decide)]
    rw [h] at HA
    clear h k1 k2 k3 hge
    go_enter Tryz.func16, Tryz.ntmps16
    go_wp2_with (go_at_call 30; refine (HA.out _).mono ?_; rintro e w' ⟨rfl, rfl⟩)
    exact bodyPost_ret (v := .agg (ia _)) (by simp [results, Tryz.results16, go_sem]) rfl ⟨rfl, bel (bel1 W _) (bel1 _ _)⟩
  · have i1 := k1 (by rw [ar, h]; decide)
    rw [th_1 h, ex_get hl i1]
    rw [h] at HA
    obtain ⟨na, hna⟩ : ∃ q : Nat, n.a = q := ⟨n.a.toNat, by have := i1.1; omega⟩
    have l1 : na < m := by have := i1.2; omega
    obtain ⟨b, off, rfl, hblt, hc⟩ := hge (by omega)
    have c1 := hc na l1
    obtain ⟨op, xa, xb, xc, xk, xs⟩ := n
    dsimp only at *
    subst hna
    simp only [Int.toNat_natCast]
    have pa : (0 : Int) ≤ na := by omega
    have qa : (na : Int) < m := by omega
    generalize T.getD na 0 = z1 at *
    clear h k1 k2 k3 hge hc i1 hT hl
    go_enter Tryz.func16, Tryz.ntmps16
    go_wp2_with (go_at_call 30; refine (HA.out _).mono ?_; rintro e w' ⟨rfl, rfl⟩)
    exact bodyPost_ret (v := .agg (ia _)) (by simp [results, Tryz.results16, go_sem]) rfl ⟨rfl, bel (bel1 W _) (bel1 _ _)⟩
  · have i1 := k1 (by rw [ar, h]; decide)
    have i2 := k2 (by rw [ar, h]; decide)
    rw [th_2 h, ex_get hl i1, ex_get hl i2]
    rw [h] at HA
    obtain ⟨na, hna⟩ : ∃ q : Nat, n.a = q := ⟨n.a.toNat, by have := i1.1; omega⟩
    have l1 : na < m := by have := i1.2; omega
    obtain ⟨nb, hnb⟩ : ∃ q : Nat, n.b = q := ⟨n.b.toNat, by have := i2.1; omega⟩
    have l2 : nb < m := by have := i2.2; omega
    obtain ⟨b, off, rfl, hblt, hc⟩ := hge (by omega)
    have c1 := hc na l1
    have c2 := hc nb l2
    obtain ⟨op, xa, xb, xc, xk, xs⟩ := n
    dsimp only at *
    subst hna hnb
    simp only [Int.toNat_natCast]
    have pa : (0 : Int) ≤ na := by omega
    have qa : (na : Int) < m := by omega
    generalize T.getD na 0 = z1 at *
    have pb : (0 : Int) ≤ nb := by omega
    have qb : (nb : Int) < m := by omega
    generalize T.getD nb 0 = z2 at *
    clear h k1 k2 k3 hge hc i1 i2 hT hl
    go_enter Tryz.func16, Tryz.ntmps16
    go_wp2_with (go_at_call 30; refine (HA.out _).mono ?_; rintro e w' ⟨rfl, rfl⟩)
    exact bodyPost_ret (v := .agg (ia _)) (by simp [results, Tryz.results16, go_sem]) rfl ⟨rfl, bel (bel1 W _) (bel1 _ _)⟩
  · have i1 := k1 (by rw [ar, h]; decide)
    have i2 := k2 (by rw [ar, h]; decide)
    have i3 := k3 (by rw [ar, h]; decide)
    rw [th_3 h, ex_get hl i1, ex_get hl i2, ex_get hl i3]
    rw [h] at HA
    obtain ⟨na, hna⟩ : ∃ q : Nat, n.a = q := ⟨n.a.toNat, by have := i1.1; omega⟩
    have l1 : na < m := by have := i1.2; omega
    obtain ⟨nb, hnb⟩ : ∃ q : Nat, n.b = q := ⟨n.b.toNat, by have := i2.1; omega⟩
    have l2 : nb < m := by have := i2.2; omega
    obtain ⟨nc, hnc⟩ : ∃ q : Nat, n.c = q := ⟨n.c.toNat, by have := i3.1; omega⟩
    have l3 : nc < m := by have := i3.2; omega
    obtain ⟨b, off, rfl, hblt, hc⟩ := hge (by omega)
    have c1 := hc na l1
    have c2 := hc nb l2
    have c3 := hc nc l3
    obtain ⟨op, xa, xb, xc, xk, xs⟩ := n
    dsimp only at *
    subst hna hnb hnc
    simp only [Int.toNat_natCast]
    have pa : (0 : Int) ≤ na := by omega
    have qa : (na : Int) < m := by omega
    generalize T.getD na 0 = z1 at *
    have pb : (0 : Int) ≤ nb := by omega
    have qb : (nb : Int) < m := by omega
    generalize T.getD nb 0 = z2 at *
    have pc : (0 : Int) ≤ nc := by omega
    have qc : (nc : Int) < m := by omega
    generalize T.getD nc 0 = z3 at *
    clear h k1 k2 k3 hge hc i1 i2 i3 hT hl
    go_enter Tryz.func16, Tryz.ntmps16
    go_wp2_with (go_at_call 30; refine (HA.out _).mono ?_; rintro e w' ⟨rfl, rfl⟩)
    exact bodyPost_ret (v := .agg (ia _)) (by simp [results, Tryz.results16, go_sem]) rfl ⟨rfl, bel (bel1 W _) (bel1 _ _)⟩


theorem th_need {n : In} {k : Nat} (h : okI n k = true) : ThOk n k := by
  simp only [okI, rgs, Bool.and_eq_true, rg_in, decide_eq_true_eq] at h
  exact ⟨h.1.2.1.1.1, h.1.2.1.2.1, h.1.2.2.1⟩

/-- All instructions appended to an empty list, at a step of a region that draws. -/
theorem cl_step {V : World} {base b0 : Nat} {L : List In} {n c : Nat} {ad : Addr} {ops : Array Oper} {o : Oper} {a : Act} {K : Act → World → Prop} {Q : Exit → Act → World → Prop} {E : Prop}
    (hgd : o.guard = none) (s x : Operand) (ho : o.op = .call { callee := .builtin .append, args := #[s, x], argTypes := #[24, 24] })
    (hs : a.eval s = .slice (some ⟨b0, 0, none⟩) 0 0) (hen : V.ownsRow base 39 6 (.slice (some ⟨b0, 0, none⟩) 0 0) 0 []) (hbase : base ≤ V.heap.size) (hx : a.eval x = .slice (some ad) n c) (hl : (is6 L).length = n * 6)
    (hN : ∀ j u, (is6 L)[j]? = some u → V.cell? (ad.add j) = some u) (hn0 : 0 < n) (h3 : n ≤ 2000000)
    (h : ∀ g cap w', w'.ownsRow base 39 6 (.slice (some ⟨g, 0, none⟩) n cap) n (is6 L) → V.grownBy w' (some b0) → K (a.put o.dst (.slice (some ⟨g, 0, none⟩) n cap)) w') :
    if Region.wanted o (yielded ops a.tmps) = true then Oper.wp Tryz.prog o a V K Q else E := by
  obtain ⟨i0', hi0, hz0, hz1, hz2⟩ := YtncdekefhonljaaGreat.Spn.info_parts infoI
  refine step_append_lies V hgd s x 24 ho base 39 i0' _ 6 48 Tryz.underlying24 hi0 hz0 hz1 hz2 rfl (by omega) (.slice (some ⟨b0, 0, none⟩) 0 0) 0 [] hs hen ad n c (is6 L) hx hl hN (Cde.is6_one L) hn0 (by unfold maxLen; omega) (by omega) hbase V.heap.size rfl ?_
  intro g cap w' hown hgrow hat hlt
  rw [Nat.zero_add, List.nil_append] at hown
  rw [Nat.zero_add]
  exact h g cap w' hown hgrow

set_option maxRecDepth 100000 in
set_option maxHeartbeats 8000000 in
theorem gtaken_any (f d o1 o2 : Int) {a1 a2 : Option Addr} {n1 n2 c1 c2 : Nat} {M L : List In} {W : World} (hM : Ins W a1 n1 c1 M) (hL : Ins W a2 n2 c2 L) (hn0 : 0 < n2) (hn : n2 ≤ 1000) :
    Calls Tryz.prog 17 #[.agg (cd f d a2 n2 c2 o2), .agg (cd f d a1 n1 c1 o1)] W fun e W' =>
      (vfE f d M o1 = 0 ∧ e = .returned (.agg (cd f d a1 n1 c1 o1)) ∧ Below W.heap.size W W') ∨
      (vfE f d M o1 ≠ 0 ∧ ∃ a' c', e = .returned (.agg (cd f d a' n2 c' o2)) ∧ W'.ownsRow W.heap.size 39 6 (.slice a' n2 c') n2 (is6 L) ∧ Below W.heap.size W W') := by
  have b1 := bel1 W (.cells (cd f d a2 n2 c2 o2) 26)
  have b2 := bel b1 (bel1 _ (.cells (cd f d a1 n1 c1 o1) 26))
  have b3 := bel b2 (bel1 _ (.cells cdz 26))
  have h3 := HasC.new ((W.alloc (.cells (cd f d a2 n2 c2 o2) 26)).alloc (.cells (cd f d a1 n1 c1 o1) 26)) 26 cdz
  rw [World.size_alloc, World.size_alloc] at h3
  have HF0 : Hid (Fh W (((W.alloc (.cells (cd f d a2 n2 c2 o2) 26)).alloc (.cells (cd f d a1 n1 c1 o1) 26)).alloc (.cells cdz 26)) (cd f d a2 n2 c2 o2) (cd f d a1 n1 c1 o1) cdz) :=
    hide ⟨((HasC.new W 26 (cd f d a2 n2 c2 o2)).alloc (.cells (cd f d a1 n1 c1 o1) 26)).alloc (.cells cdz 26), (has_new1 W (.cells (cd f d a2 n2 c2 o2) 26) 26 (cd f d a1 n1 c1 o1)).alloc (.cells cdz 26), h3, b3⟩
  have HV := hide (Vfy.jverify_any f d o1 (hM.later b3))
  have HLI := hide hL
  clear b1 b2 b3 h3 hM hL
  go_enter Tryz.func17, Tryz.ntmps17
  go_wp2_with fail
  refine HV.out.mono ?_
  rintro e V1 ⟨ga, gc, rfl, hS, hb, -, -⟩
  obtain ⟨m, hm⟩ : ∃ m, vfN f d M o1 = m := ⟨_, rfl⟩
  obtain ⟨co, hco⟩ : ∃ co, vfC f d M o1 = co := ⟨_, rfl⟩
  obtain ⟨er, her⟩ : ∃ er, vfE f d M o1 = er := ⟨_, rfl⟩
  rw [hm, hco, her]
  have HEr := hide her
  have hb2 := bel1 V1 (.cells #[.slice ga m gc, .int .i64 co, .int .i64 0] 42)
  have HF1 := hide ((HF0.out.below hb).below hb2)
  obtain ⟨x0, x1, x2, x3⟩ := four_of (HF0.out.below hb).c
  obtain ⟨w0, w1, w2, w3⟩ := four_of (HF0.out.below hb).w
  obtain ⟨p0, p1, p2, p3⟩ := four_of (HF0.out.below hb).r
  have z0 := (HF0.out.below hb).c.lt
  have z1 := (HF0.out.below hb).w.lt
  have z2 := (HF0.out.below hb).r.lt
  clear hm hco her hb hb2 hS HV HF0
  by_cases h0 : er = 0
  · have hr : (er == 0) = true := by simpa using h0
    go_upto_region 3 with fail
    obtain ⟨V2, hV2⟩ : ∃ V2, V1.alloc (.cells #[.slice ga m gc, .int .i64 co, .int .i64 0] 42) = V2 := ⟨_, rfl⟩
    rw [hV2] at HF1 ⊢
    clear x0 x1 x2 x3 w0 w1 w2 w3 p0 p1 p2 p3 z0 z1 z2 hV2
    obtain ⟨x0, x1, x2, x3⟩ := four_of HF1.out.w
    obtain ⟨p0, p1, p2, p3⟩ := four_of HF1.out.r
    obtain ⟨r0, r1, r2, r3⟩ := four_fr HF1.out.r
    obtain ⟨V3, hV3⟩ : ∃ V3, (((V2.setCell ⟨W.heap.size + 1 + 1, 0, none⟩ (.int .i64 f)).setCell ⟨W.heap.size + 1 + 1, 1, none⟩ (.int .i64 d)).setCell ⟨W.heap.size + 1 + 1, 2, none⟩ (.slice a1 n1 c1)).setCell ⟨W.heap.size + 1 + 1, 3, none⟩ (.int .i64 o1) = V3 := ⟨_, rfl⟩
    have HF2 : Hid (Fh W V3 (cd f d a2 n2 c2 o2) (cd f d a1 n1 c1 o1) (cd f d a1 n1 c1 o1)) := hide (by rw [← hV3]; exact HF1.out.put (.int .i64 f) (.int .i64 d) (.slice a1 n1 c1) (.int .i64 o1))
    go_wp2_with fail
    obtain ⟨q0, q1, q2, q3⟩ := four_of HF2.out.r
    exact bodyPost_ret (v := .agg (cd f d a1 n1 c1 o1)) (by simp [results, Tryz.results17, go_sem, q0, q1, q2, q3]) rfl (.inl ⟨HEr.out.trans h0, rfl, HF2.out.lo⟩)
  · have hr : (er == 0) = false := by simpa using h0
    go_upto_region 4 with fail
    obtain ⟨V2, hV2⟩ : ∃ V2, V1.alloc (.cells #[.slice ga m gc, .int .i64 co, .int .i64 0] 42) = V2 := ⟨_, rfl⟩
    rw [hV2] at HF1 ⊢
    clear x0 x1 x2 x3 w0 w1 w2 w3 p0 p1 p2 p3 z0 z1 z2 hV2
    obtain ⟨x0, x1, x2, x3⟩ := four_of HF1.out.c
    have hbX : Below V2.heap.size V2 ((V2.alloc (.cells #[] 39)).drew) := bel (bel1 V2 (.cells #[] 39)) (below_drew _)
    have hOX : ((V2.alloc (.cells #[] 39)).drew).ownsRow W.heap.size 39 6 (.slice (some ⟨V2.heap.size, 0, none⟩) 0 0) 0 [] := ⟨rfl, .inr ⟨V2.heap.size, 0, #[], rfl, HF1.out.lo.size, heap_alloc_new V2 _, Nat.le_refl _, Nat.zero_le _, rfl, rfl⟩⟩
    have hFX := HF1.out.below hbX
    obtain ⟨ad, rfl⟩ : ∃ ad, a2 = some ad := by
      cases a2 with
      | none => have := (bytes_no HLI.out).1; omega
      | some ad => exact ⟨ad, rfl⟩
    have hLX := (HLI.out.later HF1.out.lo).later hbX
    have HNX := hide (hLX.news ad rfl)
    have HlX := hide (show (is6 L).length = n2 * 6 by rw [Cde.is6_len, HLI.out.len])
    have HOX := hide hOX
    have HsX := hide (show W.heap.size ≤ ((V2.alloc (.cells #[] 39)).drew).heap.size from hFX.lo.size)
    have HGX := hide fun V3 (hg : ((V2.alloc (.cells #[] 39)).drew).grownBy V3 (some V2.heap.size)) => (⟨own_grow hOX hg hFX.c (by decide), own_grow hOX hg hFX.w (by decide), own_grow hOX hg hFX.r (by decide), hFX.lo.grown hg hFX.lo.size fun k hk => (Cde.owns_block hOX k hk).1⟩ : Fh W V3 (cd f d (some ad) n2 c2 o2) (cd f d a1 n1 c1 o1) cdz)
    obtain ⟨y0, y1, y2, y3⟩ := four_of hFX.c
    clear hbX hOX hLX hFX
    go_region_held3 (fun w' => w'.cell? ⟨W.heap.size, 0, none⟩ = some (.int .i64 f) ∧ w'.cell? ⟨W.heap.size, 1, none⟩ = some (.int .i64 d) ∧ w'.cell? ⟨W.heap.size, 2, none⟩ = some (.slice (some ad) n2 c2) ∧ w'.cell? ⟨W.heap.size, 3, none⟩ = some (.int .i64 o2))
      (first | with_reducible exact ⟨x0, x1, x2, x3⟩ | with_reducible exact ⟨y0, y1, y2, y3⟩ | with_reducible exact ⟨k0, k1, k2, k3⟩ | with_reducible exact ⟨m0, m1, m2, m3⟩ | exact ⟨x0, x1, x2, x3⟩ | go_keep)
      ((refine cl_step (L := L) (by rfl) _ _ (by rfl) (by rfl) HOX.out HsX.out (by rfl) HlX.out HNX.out hn0 (by omega) ?_; intro g' c' V3 hO hg; have HF3 := hide (HGX.out V3 hg); obtain ⟨k0, k1, k2, k3⟩ := four_of HF3.out.c; obtain ⟨p0, p1, p2, p3⟩ := four_of HF3.out.r; obtain ⟨r0, r1, r2, r3⟩ := four_fr HF3.out.r; have hp := HF3.out.put (.int .i64 f) (.int .i64 d) (.slice (some ⟨g', 0, none⟩) n2 c') (.int .i64 o2); unfold s4 at hp; obtain ⟨m0, m1, m2, m3⟩ := four_of hp.c))
    all_goals
      have HO3 := hide hO
      clear k0 k1 k2 k3 p0 p1 p2 p3 r0 r1 r2 r3 m0 m1 m2 m3 hp hO hg HOX HsX HlX HNX HGX x0 x1 x2 x3 y0 y1 y2 y3
      have hq := own_ne HO3.out HF3.out.r (by decide)
      have HO4 := hide (s4_own HO3.out hq (.int .i64 f) (.int .i64 d) (.slice (some ⟨g', 0, none⟩) n2 c') (.int .i64 o2))
      have HF4 := hide (HF3.out.put (.int .i64 f) (.int .i64 d) (.slice (some ⟨g', 0, none⟩) n2 c') (.int .i64 o2))
      obtain ⟨V4, hV4⟩ : ∃ V4, (((V3.setCell ⟨W.heap.size + 1 + 1, 0, none⟩ (.int .i64 f)).setCell ⟨W.heap.size + 1 + 1, 1, none⟩ (.int .i64 d)).setCell ⟨W.heap.size + 1 + 1, 2, none⟩ (.slice (some ⟨g', 0, none⟩) n2 c')).setCell ⟨W.heap.size + 1 + 1, 3, none⟩ (.int .i64 o2) = V4 := ⟨_, rfl⟩
      unfold s4 at HO4 HF4
      rw [hV4] at HO4 HF4 ⊢
      clear hV4 hq HF3 HO3
      go_wp2_with fail
      obtain ⟨q0, q1, q2, q3⟩ := four_of HF4.out.r
      exact bodyPost_ret (v := .agg (cd f d (some ⟨g', 0, none⟩) n2 c' o2)) (by simp [results, Tryz.results17, go_sem, q0, q1, q2, q3]) rfl (.inr ⟨by rw [HEr.out]; exact h0, _, _, rfl, HO4.out, HF4.out.lo⟩)


theorem own_cell_at {V : World} {base b2 o2 k c : Nat} {T : List Int} (h : V.ownsRow base 3 1 (.slice (some ⟨b2, o2, none⟩) k c) T.length (i64s T)) (hk : T.length = k) {o : Nat} (ho : o < k) {z : Int} (hz : T.getD o 0 = z) : V.cell? ⟨b2, o2 + o, none⟩ = some (.int .i64 z) := by
  obtain ⟨a', c', e, hi, -⟩ := Ints.of_owns h
  cases e
  rw [hk] at hi
  obtain ⟨b, off, e, -, hat⟩ := hi.at (by omega)
  cases e
  rw [← hz]
  exact hat o ho
/-- What Taken makes of it, in one form. -/
theorem gtaken_one {f d out : Int} {a1 a2 : Option Addr} {n c1 c2 : Nat} {L : List In} {W : World} (hL : L.length = n) (hO : W.ownsRow 0 39 6 (.slice a1 n c1) n (is6 (shF L).1)) (hI : Ins W a2 n c2 L) (hn0 : 0 < n) (hn : n ≤ 1000) :
    Calls Tryz.prog 17 #[.agg (cd f d a2 n c2 out), .agg (cd f d a1 n c1 (shO L out))] W fun e W' => ∃ a' c', e = .returned (.agg (cd f d a' n c' (sdO f d L out))) ∧ (∀ base, W.ownsRow base 39 6 (.slice a1 n c1) n (is6 (shF L).1) → base ≤ W.heap.size → W'.ownsRow base 39 6 (.slice a' n c') n (is6 (sdL f d L out))) ∧ Below W.heap.size W W' := by
  obtain ⟨a', c', e', hM, -⟩ := Ins.of_owns hO
  cases e'
  refine (gtaken_any f d (shO L out) out hM hI hn0 hn).mono ?_
  rintro e W' (⟨h0, rfl, hb⟩ | ⟨h0, a', c', rfl, ho, hb⟩)
  · exact ⟨_, _, by rw [sdO, if_pos h0], fun base h _ => by rw [sdL, if_pos h0]; exact Cde.own_later h hb, hb⟩
  · exact ⟨_, _, by rw [sdO, if_neg h0], fun base _ h => by rw [sdL, if_neg h0]; exact Cde.own_mono ho h, hb⟩


end Go.Proofs.Shr

/-
  The document's Share.
-/
namespace Go.Proofs.Shr
open Go.RowKit Go.IntWalk YtncdekefhonljaaGreat.Knd
open Cde (In i0 ia kd cd Ins at6 six_of four_of two_of has_new1 okI okT below_drew is6 i6 zA take_snoc in_run)
open Fld (thI)
open Vfy (vfE vfN vfC)
set_option linter.unusedVariables false

theorem drop_none {M : List In} {m : In} {k : Nat} (h : M.length = k) : ((k + (M.drop k).idxOf m : Nat) : Int) = (k : Int) := by
  rw [List.drop_of_length_le (by omega)]
  simp
theorem drop_yes {M : List In} {m : In} {j : Nat} (hj : j < M.length) (h : M.getD j i0 = m) : j + (M.drop j).idxOf m = j := by
  rw [List.drop_eq_getElem_cons hj]
  have : M[j] = m := by rw [← h]; simp [List.getD_eq_getElem?_getD, hj]
  rw [this, List.idxOf_cons_self]
  rfl
theorem drop_no {M : List In} {m : In} {j : Nat} (hj : j < M.length) (h : M.getD j i0 ≠ m) : j + (M.drop j).idxOf m = j + 1 + (M.drop (j + 1)).idxOf m := by
  rw [List.drop_eq_getElem_cons hj]
  have : M[j] ≠ m := by intro e; apply h; rw [← e]; simp [List.getD_eq_getElem?_getD, hj]
  have hb : (M[j] == m) = false := by simpa using this
  rw [List.idxOf_cons, hb]
  simp only [cond_false]
  omega

set_option maxRecDepth 100000 in
set_option maxHeartbeats 32000000 in
theorem dshare_any (f d out : Int) {a : Option Addr} {n cap : Nat} {L : List In} {W : World} (hL : Ins W a n cap L) :
    Calls Tryz.prog 6 #[.agg (cd f d a n cap out)] W (FoP W f d L out) := by
  have b1 := bel1 W (.cells (cd f d a n cap out) 26)
  have b2 := bel b1 (bel1 _ (.cells cdz 26))
  have HF0 : Hid (Fg W ((W.alloc (.cells (cd f d a n cap out) 26)).alloc (.cells cdz 26)) (cd f d a n cap out) cdz) :=
    hide ⟨(HasC.new W 26 (cd f d a n cap out)).alloc (.cells cdz 26), has_new1 W (.cells (cd f d a n cap out) 26) 26 cdz, b2⟩
  have HV := hide (Vfy.jverify_any f d out (hL.later b2))
  have HLI := hide hL
  have HLn := hide hL.len
  clear b1 b2 hL
  go_enter Tryz.func6, Tryz.ntmps6
  go_wp2_with fail
  refine HV.out.mono ?_
  rintro e V1 ⟨ga, gc, rfl, hS, hb, -, -⟩
  obtain ⟨vm, hm⟩ : ∃ m, vfN f d L out = m := ⟨_, rfl⟩
  obtain ⟨co, hco⟩ : ∃ co, vfC f d L out = co := ⟨_, rfl⟩
  obtain ⟨er, her⟩ : ∃ er, vfE f d L out = er := ⟨_, rfl⟩
  rw [hm, hco, her]
  have HEr := hide her
  have hb2 := bel1 V1 (.cells #[.slice ga vm gc, .int .i64 co, .int .i64 0] 42)
  have HF1 := hide ((HF0.out.below hb).below hb2)
  clear hm hco her hb hb2 hS HV
  by_cases h0 : er = 0
  · have hr : (er != 0) = false := by simpa using h0
    have h0' := HEr.out.trans h0
    obtain ⟨mc, -⟩ := Vfy.vf_parts h0'
    obtain ⟨-, m1, m2, o0, o1, -⟩ := Cde.mc_parts mc
    obtain ⟨-, -, -, -, -, hok⟩ := Cde.mc_parts mc
    rw [HLn.out] at m1 m2 o1
    have HOk0 := hide fun k (hk : k < n) => Cde.okT_at hok (show k < L.length by rw [HLn.out]; exact hk)
    have HSu := hide fun k (hk : k < n) => shF_succ (L := L) (k := k) (by rw [HLn.out]; exact hk)
    clear mc hok
    go_upto_region 4 with fail
    obtain ⟨V2, hV2⟩ : ∃ V2, V1.alloc (.cells #[.slice ga vm gc, .int .i64 co, .int .i64 0] 42) = V2 := ⟨_, rfl⟩
    rw [hV2] at HF1 ⊢
    clear hV2 HF0
    have HB0 : Hid (Fb W V2 (cd f d a n cap out) (.slice none 0 0) (.slice none 0 0) [] []) := hide ⟨HF1.out.c, HF1.out.r, ⟨rfl, .inl ⟨rfl, rfl⟩⟩, ⟨rfl, .inl ⟨rfl, rfl⟩⟩, HF1.out.lo⟩
    go_wp2_with fail
    go_loopw [6, 7, 8] (fun mv tv i wr => ∃ (k : Nat) (am : Option Addr) (cm : Nat) (at' : Option Addr) (ct : Nat) (M : List In) (T : List Int), k ≤ n ∧ i = .int .i64 k ∧ mv = .slice am k cm ∧ tv = .slice at' k ct ∧ Hid (shF (L.take k) = (M, T)) ∧ Hid (M.length = k) ∧ Hid (T.length = k) ∧ Hid (Fb W wr (cd f d a n cap out) (.slice am k cm) (.slice at' k ct) M T)) (fun _ _ i _ => n - (intOf i).toNat)
    case atStart => exact ⟨0, _, _, _, _, [], [], Nat.zero_le _, rfl, rfl, rfl, hide rfl, hide rfl, hide rfl, HB0⟩
    case round =>
      obtain ⟨k, am, cm, at', ct, M, T, hk, rfl, rfl, rfl, HM, HMl, HTl, HF⟩ := hrel
      rename World => V
      clear HB0
      obtain ⟨x0, x1, x2, x3⟩ := four_of HF.out.c
      by_cases hlt : k < n
      · obtain ⟨b, off, rfl, -, hat⟩ := (HLI.out.later HF.out.lo).at (by omega)
        obtain ⟨e0, e1, e2, e3, e4, e5⟩ := hat k hlt
        clear hat
        have hi0 : (0 : Int) ≤ k := by omega
        have hi1 : (k : Int) < n := by omega
        have hSu := HSu.out k hlt
        rw [HM.out] at hSu
        have HTn := hide (th_need (HOk0.out k hlt))
        generalize L.getD k i0 = q at *
        have HTh := hide (gthrough_any q (HF.out.ints HTl.out) HTn.out)
        have HOr := hide fun V => dorder_any (thI q T) V
        rw [show orI (thI q T) = shM q T from rfl] at HOr
        obtain ⟨m, hm⟩ : ∃ m, shM q T = m := ⟨_, rfl⟩
        rw [shS_at hm] at hSu
        rw [hm] at HOr
        have HZ := hide hSu
        clear hSu hm HTn
        go_wp2_with fail
        refine HTh.out.mono ?_
        rintro e V3 ⟨rfl, hb⟩
        have HF3 := hide (HF.out.below hb)
        clear hb HTh HF e0 e1 e2 e3 e4 e5 x0 x1 x2 x3
        generalize thI q T = m0 at *
        go_wp2_with fail
        refine (HOr.out _).mono ?_
        rintro e V3b ⟨rfl, hb⟩
        have HC0 := hide ((HF3.out.below hb).with m)
        clear hb HF3 HOr
        go_upto_region 10 with fail
        obtain ⟨gb, hgb⟩ : ∃ gb, V3b.heap.size = gb := ⟨_, rfl⟩
        obtain ⟨V4, hV4⟩ : ∃ V4, V3b.alloc (.cells (ia m) 39) = V4 := ⟨_, rfl⟩
        rw [hgb, hV4] at HC0 ⊢
        clear hgb hV4
        go_wp2_with fail
        go_loopw [10, 11] (fun r i wr => ∃ j : Nat, j ≤ k ∧ i = .int .i64 ((j : Int) - 1) ∧ r = .int .i64 ((j + (M.drop j).idxOf m : Nat) : Int) ∧ Hid (Below V4.heap.size V4 wr)) (fun _ i _ => (intOf i + 1).toNat)
        case atStart => exact ⟨k, Nat.le_refl _, by go_num, by rw [drop_none HMl.out], hide (Below.refl _ _)⟩
        case round =>
          obtain ⟨j, hj, rfl, rfl, HB⟩ := hrel
          rename World => V5
          have HC5 := hide (HC0.out.below HB.out)
          cases j with
          | zero =>
            have hz0 : ((0 : Nat) : Int) - 1 = -1 := rfl
            rw [hz0]
            rw [Nat.zero_add, List.drop_zero]
            obtain ⟨z, hz⟩ : ∃ z, M.idxOf m = z := ⟨_, rfl⟩
            rw [hz] at HZ ⊢
            clear hz
            obtain ⟨e0, e1, e2, e3, e4, e5⟩ := six_of HC5.out.n
            have HN5 := hide (HasC.new V5 39 (ia m))
            have HF5 := hide (HC5.out.f.below (bel1 V5 (.cells (ia m) 39)))
            go_wp2_with (first
              | (at_builtin; refine ins_list rfl _ _ rfl rfl HF5.out.m HF5.out.lo.size _ m rfl HN5.out (by rw [HMl.out]; omega) ?_; intro g cap' w2 hown hgr; have HF6 := hide (HF5.out.growM hgr hown); have HF7 := hide (HF6.out.below (bel1 w2 (.cells #[.int .i64 (z : Int)] 3))); have HN7 := hide (HasC.new w2 3 #[.int .i64 (z : Int)]); clear hown hgr e0 e1 e2 e3 e4 e5)
              | (at_builtin; refine int_list rfl _ _ rfl rfl HF7.out.t HF7.out.lo.size _ (z : Int) rfl HN7.out (by rw [HTl.out]; omega) ?_; intro g2 cap2 w3 hown2 hgr2))
            have HF8 := hide (HF7.out.growT hgr2 hown2)
            clear hown2 hgr2
            rw [HMl.out, HTl.out] at HF8 ⊢
            go_wp2_with fail
            go_roundw
            case rel => exact ⟨k + 1, _, _, _, _, M ++ [m], T ++ [(z : Int)], by omega, by go_num, rfl, rfl, HZ, hide (by simp [HMl.out]), hide (by simp [HTl.out]), HF8⟩
            case measure => simp [intOf]; omega
          | succ j =>
            have hz0 : ((j + 1 : Nat) : Int) - 1 = (j : Int) := by omega
            rw [hz0]
            obtain ⟨bm, om, rfl, -, hat⟩ := (HC5.out.f.ins HMl.out).at (by omega)
            obtain ⟨f0, f1, f2, f3, f4, f5⟩ := hat j (by omega)
            obtain ⟨e0, e1, e2, e3, e4, e5⟩ := six_of HC5.out.n
            have hrun := in_run (M.getD j i0) m
            have HD1 := hide fun (h : M.getD j i0 = m) => drop_yes (M := M) (m := m) (j := j) (by rw [HMl.out]; omega) h
            have HD2 := hide fun (h : M.getD j i0 ≠ m) => drop_no (M := M) (m := m) (j := j) (by rw [HMl.out]; omega) h
            generalize M.getD j i0 = y at *
            generalize hr1 : j + 1 + (M.drop (j + 1)).idxOf m = r1 at *
            have i0' : (0 : Int) ≤ j := by omega
            have i1' : (j : Int) < k := by omega
            clear hat
            by_cases he : y = m
            · have hD := HD1.out he
              rw [decide_eq_true he] at hrun
              have HR := hide hD
              clear hD he HD1 HD2 hr1
              go_wp2_with fail
              have E0 := cell_regrown e0
              have E1 := cell_regrown e1
              have E2 := cell_regrown e2
              have E3 := cell_regrown e3
              have E4 := cell_regrown e4
              have E5 := cell_regrown e5
              have F0 := cell_regrown f0
              have F1 := cell_regrown f1
              have F2 := cell_regrown f2
              have F3 := cell_regrown f3
              have F4 := cell_regrown f4
              have F5 := cell_regrown f5
              refine wp_region_quiet_below mixedF (by kernel_rfl) ?_
              repeat (go_big_quiet_step (fail))
              refine wpQuiet_nil ?_
              intro V7 hw'
              obtain ⟨⟨dq, osq⟩, hw''⟩ := hw'
              have hb := below_regrown V5 dq osq
              simp only at hw''
              rw [← hw''] at hb
              have HB7 := hide (bel HB.out hb)
              clear hw'' hb E0 E1 E2 E3 E4 E5 F0 F1 F2 F3 F4 F5 e0 e1 e2 e3 e4 e5 f0 f1 f2 f3 f4 f5 hrun
              go_wp2_with fail
              go_roundw
              case rel => exact ⟨j, by omega, by go_num, by rw [HR.out], HB7⟩
              case measure => simp [intOf] <;> omega
            · have hD := HD2.out he
              rw [decide_eq_false he] at hrun
              have HR := hide hD
              clear hD he HD1 HD2 hr1
              go_wp2_with fail
              have E0 := cell_regrown e0
              have E1 := cell_regrown e1
              have E2 := cell_regrown e2
              have E3 := cell_regrown e3
              have E4 := cell_regrown e4
              have E5 := cell_regrown e5
              have F0 := cell_regrown f0
              have F1 := cell_regrown f1
              have F2 := cell_regrown f2
              have F3 := cell_regrown f3
              have F4 := cell_regrown f4
              have F5 := cell_regrown f5
              refine wp_region_quiet_below mixedF (by kernel_rfl) ?_
              repeat (go_big_quiet_step (fail))
              refine wpQuiet_nil ?_
              intro V7 hw'
              obtain ⟨⟨dq, osq⟩, hw''⟩ := hw'
              have hb := below_regrown V5 dq osq
              simp only at hw''
              rw [← hw''] at hb
              have HB7 := hide (bel HB.out hb)
              clear hw'' hb E0 E1 E2 E3 E4 E5 F0 F1 F2 F3 F4 F5 e0 e1 e2 e3 e4 e5 f0 f1 f2 f3 f4 f5 hrun
              go_wp2_with fail
              go_roundw
              case rel => exact ⟨j, by omega, by go_num, by rw [HR.out], HB7⟩
              case measure => simp [intOf] <;> omega
      · obtain rfl : k = n := by omega
        have hM := HM.out
        rw [List.take_of_length_le (by rw [HLn.out]; exact Nat.le_refl _)] at hM
        have HM2 := hide hM
        obtain ⟨o, rfl⟩ : ∃ o : Nat, out = o := ⟨out.toNat, by omega⟩
        obtain ⟨b2, o2, hat', -, hat⟩ := (HF.out.ints HTl.out).at (by omega)
        have t0 := hat o (by omega)
        subst hat'
        have hw0 : W.heap.size < V.heap.size := HF.out.c.lt
        have i0' : (0 : Int) ≤ o := by omega
        have i1' : (o : Int) < k := by omega
        have hz : shO L (o : Int) = T.getD o 0 := by rw [shO, hM]; rfl
        have hz1 : (shF L).1 = M := by rw [hM]
        have hmM := HF.out.m
        rw [HMl.out, ← hz1] at hmM
        have HTk := hide fun (X : World) (hb : Below V.heap.size V X) => gtaken_one (f := f) (d := d) (out := (o : Int)) HLn.out (Cde.own_mono (Cde.own_later hmM hb) (Nat.zero_le _)) ((HLI.out.later HF.out.lo).later hb) m1 (by omega)
        rw [hz] at HTk
        have HOm := hide hmM
        have HtC := hide (t0)
        obtain ⟨z, hzz⟩ : ∃ z, T.getD o 0 = z := ⟨_, rfl⟩
        rw [hzz] at t0 HTk HtC
        have HZz := hide hzz
        clear hat hM HM HSu HOk0 hmM hz hz1 hzz
        go_upto_region 18 with fail
        go_region_held3 (fun w' => (w'.cell? ⟨W.heap.size, 0, none⟩ = some (.int .i64 f) ∧ w'.cell? ⟨W.heap.size, 1, none⟩ = some (.int .i64 d) ∧ w'.cell? ⟨W.heap.size, 2, none⟩ = some (.slice a k cap) ∧ w'.cell? ⟨W.heap.size, 3, none⟩ = some (.int .i64 (o : Int))) ∧ w'.cell? ⟨b2, o2 + o, none⟩ = some (.int .i64 z))
          (first | with_reducible exact ⟨⟨x0, x1, x2, x3⟩, t0⟩ | with_reducible exact ⟨⟨l0, l1, l2, l3⟩, t4⟩ | with_reducible exact ⟨⟨m0, m1', m2', m3⟩, t5⟩ | exact ⟨⟨x0, x1, x2, x3⟩, t0⟩ | go_keep)
          ((first
            | (go_at_call 17; refine (HTk.out _ (below_drew _)).mono ?_; rintro e9 V4 ⟨a2', c2', rfl, hO4, hb4⟩; have HF4 := hide (HF.out.below (bel (below_drew V) hb4)); obtain ⟨l0, l1, l2, l3⟩ := four_of HF4.out.c; have t4 := cell_bel (bel (below_drew V) hb4) t0 (World.block_lt_of_cell? V _ t0); obtain ⟨p0, p1, p2, p3⟩ := four_of HF4.out.o; obtain ⟨r0, r1, r2, r3⟩ := four_fr HF4.out.o; have hT4 := s4_own HF4.out.t (own_ne HF4.out.t HF4.out.o (by decide)) (.int .i64 f) (.int .i64 d) (.slice a2' k c2') (.int .i64 (sdO f d L (o : Int))); have hG4 := (⟨HF4.out.c, HF4.out.o, HF4.out.lo⟩ : Fg W V4 (cd f d a k cap (o : Int)) cdz).put (.int .i64 f) (.int .i64 d) (.slice a2' k c2') (.int .i64 (sdO f d L (o : Int))); unfold s4 at hT4 hG4; have t5 := own_cell_at hT4 HTl.out (o := o) (by omega) HZz.out; obtain ⟨m0, m1', m2', m3⟩ := four_of hG4.c)))
        all_goals
          have HO4 := hide (hO4 W.heap.size (Cde.own_later HOm.out (below_drew V)) HF.out.lo.size)
          have HG4 := hide hG4
          clear x0 x1 x2 x3 t0 l0 l1 l2 l3 t4 t5 m0 m1' m2' m3 p0 p1 p2 p3 r0 r1 r2 r3 hT4 hG4 hO4 hb4 HTk HtC
          have hq := own_ne HO4.out HF4.out.o (by decide)
          have hlen := (sd_means h0').2.1
          rw [HLn.out] at hlen
          generalize hu : sdO f d L (o : Int) = u at *
          generalize hI : sdL f d L (o : Int) = I at *
          have HO5 := hide (s4_own HO4.out hq (.int .i64 f) (.int .i64 d) (.slice a2' k c2') (.int .i64 u))
          obtain ⟨V5, hV5⟩ : ∃ V5, (((V4.setCell ⟨W.heap.size + 1, 0, none⟩ (.int .i64 f)).setCell ⟨W.heap.size + 1, 1, none⟩ (.int .i64 d)).setCell ⟨W.heap.size + 1, 2, none⟩ (.slice a2' k c2')).setCell ⟨W.heap.size + 1, 3, none⟩ (.int .i64 u) = V5 := ⟨_, rfl⟩
          unfold s4 at HO5
          rw [hV5] at HO5 HG4 ⊢
          clear hV5 hq HF4 HO4
          go_wp2_with fail
          obtain ⟨q0, q1, q2, q3⟩ := four_of HG4.out.r
          exact bodyPost_ret (v := .tuple #[.agg (cd f d a2' k c2' u), .int .i64 0]) (by simp [results, Tryz.results6, go_sem, q0, q1, q2, q3]) rfl (FoP.row h0' hI hu hlen HO5.out HG4.out.lo)
  · have hr : (er != 0) = true := by simpa using h0
    go_upto_region 3 with fail
    obtain ⟨V2, hV2⟩ : ∃ V2, V1.alloc (.cells #[.slice ga vm gc, .int .i64 co, .int .i64 0] 42) = V2 := ⟨_, rfl⟩
    rw [hV2] at HF1 ⊢
    clear hV2 HF0
    obtain ⟨p0, p1, p2, p3⟩ := four_of HF1.out.r
    obtain ⟨r0, r1, r2, r3⟩ := four_fr HF1.out.r
    obtain ⟨V3, hV3⟩ : ∃ V3, (((V2.setCell ⟨W.heap.size + 1, 0, none⟩ (.int .i64 0)).setCell ⟨W.heap.size + 1, 1, none⟩ (.int .i64 0)).setCell ⟨W.heap.size + 1, 2, none⟩ (.slice none 0 0)).setCell ⟨W.heap.size + 1, 3, none⟩ (.int .i64 0) = V3 := ⟨_, rfl⟩
    have HF2 : Hid (Fg W V3 (cd f d a n cap out) cdz) := hide (by rw [← hV3]; exact HF1.out.put (.int .i64 0) (.int .i64 0) (.slice none 0 0) (.int .i64 0))
    go_wp2_with fail
    obtain ⟨q0, q1, q2, q3⟩ := four_of HF2.out.r
    exact bodyPost_ret (v := .tuple #[.agg cdz, .int .i64 er]) (by simp [results, Tryz.results6, go_sem, q0, q1, q2, q3]) rfl (FoP.no HEr.out h0 HF2.out.lo)

end Go.Proofs.Shr
