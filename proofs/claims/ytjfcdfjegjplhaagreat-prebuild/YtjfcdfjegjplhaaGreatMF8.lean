/-
  fold.harmless: the new code if that is taken, else a copy of the old one.
-/
import Derived.Test.YtjfcdfjegjplhaaGreatMF7
import Derived.Test.YtjfcdfjegjplhaaGreatMYA
namespace Go.Proofs.Fld
open Go.RowKit Go.IntWalk YtjfcdfjegjplhaaGreat.Knd
open Cde (In i0 ia kd cd Ins at6 six_of four_of two_of has_new1 okI okT below_drew is6 i6)
open Vfy (vfE vfN vfC)
set_option linter.unusedVariables false

/-- harmless' boxes. -/
structure Fh (W V : World) (cv wv rv : Array Value) : Prop where
  c : HasC V W.heap.size 26 cv
  w : HasC V (W.heap.size + 1) 26 wv
  r : HasC V (W.heap.size + 1 + 1) 26 rv
  lo : Below W.heap.size W V
theorem Fh.below {W V V' : World} {cv wv rv : Array Value} (h : Fh W V cv wv rv) (hb : Below V.heap.size V V') : Fh W V' cv wv rv := ⟨h.c.below hb, h.w.below hb, h.r.below hb, bel h.lo hb⟩
abbrev s4 (w : World) (b : Nat) (x y z u : Value) : World := (((w.setCell ⟨b, 0, none⟩ x).setCell ⟨b, 1, none⟩ y).setCell ⟨b, 2, none⟩ z).setCell ⟨b, 3, none⟩ u
theorem Fh.put {W V : World} {cv wv : Array Value} {p q r s : Value} (h : Fh W V cv wv #[p, q, r, s]) (x y z u : Value) : Fh W (s4 V (W.heap.size + 1 + 1) x y z u) cv wv #[x, y, z, u] := by
  refine ⟨?_, ?_, (((h.r.set 0 x).set 1 y).set 2 z).set 3 u, ?_⟩
  · exact (((h.c.other (p := ⟨W.heap.size + 1 + 1, 0, none⟩) (by simp; omega) _).other (p := ⟨W.heap.size + 1 + 1, 1, none⟩) (by simp; omega) _).other (p := ⟨W.heap.size + 1 + 1, 2, none⟩) (by simp; omega) _).other (p := ⟨W.heap.size + 1 + 1, 3, none⟩) (by simp; omega) _
  · exact (((h.w.other (p := ⟨W.heap.size + 1 + 1, 0, none⟩) (by simp) _).other (p := ⟨W.heap.size + 1 + 1, 1, none⟩) (by simp) _).other (p := ⟨W.heap.size + 1 + 1, 2, none⟩) (by simp) _).other (p := ⟨W.heap.size + 1 + 1, 3, none⟩) (by simp) _
  · exact (((h.lo.setCell (p := ⟨W.heap.size + 1 + 1, 0, none⟩) (by simp; omega) _).setCell (p := ⟨W.heap.size + 1 + 1, 1, none⟩) (by simp; omega) _).setCell (p := ⟨W.heap.size + 1 + 1, 2, none⟩) (by simp; omega) _).setCell (p := ⟨W.heap.size + 1 + 1, 3, none⟩) (by simp; omega) _
theorem four_fr {W : World} {b : Nat} {t : TypeId} {cs : Array Value} (h : HasC W b t cs) : W.frozen? ⟨b, 0, none⟩ = false ∧ W.frozen? ⟨b, 1, none⟩ = false ∧ W.frozen? ⟨b, 2, none⟩ = false ∧ W.frozen? ⟨b, 3, none⟩ = false := ⟨h.frozen 0, h.frozen 1, h.frozen 2, h.frozen 3⟩
theorem s4_own {w : World} {base b size n : Nat} {e : TypeId} {v : Value} {xs : List Value} (h : w.ownsRow base e size v n xs) (hq : v.ownBlock ≠ some b) (x y z u : Value) : (s4 w b x y z u).ownsRow base e size v n xs :=
  ownsRow_setCell_other (ownsRow_setCell_other (ownsRow_setCell_other (ownsRow_setCell_other h (a := ⟨b, 0, none⟩) hq _) (a := ⟨b, 1, none⟩) hq _) (a := ⟨b, 2, none⟩) hq _) (a := ⟨b, 3, none⟩) hq _

set_option maxRecDepth 100000 in
set_option maxHeartbeats 8000000 in
theorem fharm_any (f d o1 o2 : Int) {a1 a2 : Option Addr} {n1 n2 c1 c2 : Nat} {M L : List In} {W : World} (hM : Ins W a1 n1 c1 M) (hL : Ins W a2 n2 c2 L) (hn0 : 0 < n2) (hn : n2 ≤ 1000) :
    Calls Tryz.prog 12 #[.agg (cd f d a1 n1 c1 o1), .agg (cd f d a2 n2 c2 o2)] W fun e W' =>
      (vfE f d M o1 = 0 ∧ e = .returned (.agg (cd f d a1 n1 c1 o1)) ∧ Below W.heap.size W W') ∨
      (vfE f d M o1 ≠ 0 ∧ ∃ a' c', e = .returned (.agg (cd f d a' n2 c' o2)) ∧ W'.ownsRow W.heap.size 39 6 (.slice a' n2 c') n2 (is6 L) ∧ Below W.heap.size W W') := by
  have b1 := bel1 W (.cells (cd f d a1 n1 c1 o1) 26)
  have b2 := bel b1 (bel1 _ (.cells (cd f d a2 n2 c2 o2) 26))
  have b3 := bel b2 (bel1 _ (.cells cdz 26))
  have h3 := HasC.new ((W.alloc (.cells (cd f d a1 n1 c1 o1) 26)).alloc (.cells (cd f d a2 n2 c2 o2) 26)) 26 cdz
  rw [World.size_alloc, World.size_alloc] at h3
  have HF0 : Hid (Fh W (((W.alloc (.cells (cd f d a1 n1 c1 o1) 26)).alloc (.cells (cd f d a2 n2 c2 o2) 26)).alloc (.cells cdz 26)) (cd f d a1 n1 c1 o1) (cd f d a2 n2 c2 o2) cdz) :=
    hide ⟨((HasC.new W 26 (cd f d a1 n1 c1 o1)).alloc (.cells (cd f d a2 n2 c2 o2) 26)).alloc (.cells cdz 26), (has_new1 W (.cells (cd f d a1 n1 c1 o1) 26) 26 (cd f d a2 n2 c2 o2)).alloc (.cells cdz 26), h3, b3⟩
  have HV := hide (Vfy.yverify_any f d o1 (hM.later b3))
  have HLI := hide hL
  clear b1 b2 b3 h3 hM hL
  go_enter Tryz.func12, Tryz.ntmps12
  go_wp2_with fail
  refine HV.out.mono ?_
  rintro e V1 ⟨ga, gc, rfl, hS, hb, -, -⟩
  obtain ⟨m, hm⟩ : ∃ m, vfN f d M o1 = m := ⟨_, rfl⟩
  obtain ⟨co, hco⟩ : ∃ co, vfC f d M o1 = co := ⟨_, rfl⟩
  obtain ⟨er, her⟩ : ∃ er, vfE f d M o1 = er := ⟨_, rfl⟩
  rw [hm, hco, her]
  have HEr := hide her
  have hb2 := bel1 V1 (.cells #[.slice ga m gc, .int .i64 co, .int .i64 0] 42)
  have HF1 := hide ((HF0.out.below hb).below hb2)
  obtain ⟨x0, x1, x2, x3⟩ := four_of (HF0.out.below hb).c
  obtain ⟨w0, w1, w2, w3⟩ := four_of (HF0.out.below hb).w
  obtain ⟨p0, p1, p2, p3⟩ := four_of (HF0.out.below hb).r
  have z0 := (HF0.out.below hb).c.lt
  have z1 := (HF0.out.below hb).w.lt
  have z2 := (HF0.out.below hb).r.lt
  clear hm hco her hb hb2 hS HV HF0
  by_cases h0 : er = 0
  · have hr : (er == 0) = true := by simpa using h0
    go_upto_region 3 with fail
    obtain ⟨V2, hV2⟩ : ∃ V2, V1.alloc (.cells #[.slice ga m gc, .int .i64 co, .int .i64 0] 42) = V2 := ⟨_, rfl⟩
    rw [hV2] at HF1 ⊢
    clear x0 x1 x2 x3 w0 w1 w2 w3 p0 p1 p2 p3 z0 z1 z2 hV2
    obtain ⟨x0, x1, x2, x3⟩ := four_of HF1.out.c
    obtain ⟨p0, p1, p2, p3⟩ := four_of HF1.out.r
    obtain ⟨r0, r1, r2, r3⟩ := four_fr HF1.out.r
    obtain ⟨V3, hV3⟩ : ∃ V3, (((V2.setCell ⟨W.heap.size + 1 + 1, 0, none⟩ (.int .i64 f)).setCell ⟨W.heap.size + 1 + 1, 1, none⟩ (.int .i64 d)).setCell ⟨W.heap.size + 1 + 1, 2, none⟩ (.slice a1 n1 c1)).setCell ⟨W.heap.size + 1 + 1, 3, none⟩ (.int .i64 o1) = V3 := ⟨_, rfl⟩
    have HF2 : Hid (Fh W V3 (cd f d a1 n1 c1 o1) (cd f d a2 n2 c2 o2) (cd f d a1 n1 c1 o1)) := hide (by rw [← hV3]; exact HF1.out.put (.int .i64 f) (.int .i64 d) (.slice a1 n1 c1) (.int .i64 o1))
    go_wp2_with fail
    obtain ⟨q0, q1, q2, q3⟩ := four_of HF2.out.r
    exact bodyPost_ret (v := .agg (cd f d a1 n1 c1 o1)) (by simp [results, Tryz.results12, go_sem, q0, q1, q2, q3]) rfl (.inl ⟨HEr.out.trans h0, rfl, HF2.out.lo⟩)
  · have hr : (er == 0) = false := by simpa using h0
    go_upto_region 4 with fail
    obtain ⟨V2, hV2⟩ : ∃ V2, V1.alloc (.cells #[.slice ga m gc, .int .i64 co, .int .i64 0] 42) = V2 := ⟨_, rfl⟩
    rw [hV2] at HF1 ⊢
    clear x0 x1 x2 x3 w0 w1 w2 w3 p0 p1 p2 p3 z0 z1 z2 hV2
    obtain ⟨x0, x1, x2, x3⟩ := four_of HF1.out.w
    have HCl := hide (fclone_any ((HLI.out.later HF1.out.lo).later (below_drew V2)) (by omega) hn0)
    have HS := hide fun V3 (hb : Below V2.drew.heap.size V2.drew V3) => (HF1.out.below (bel (below_drew V2) hb))
    go_region_held3 (fun w' => w'.cell? ⟨W.heap.size + 1, 0, none⟩ = some (.int .i64 f) ∧ w'.cell? ⟨W.heap.size + 1, 1, none⟩ = some (.int .i64 d) ∧ w'.cell? ⟨W.heap.size + 1, 2, none⟩ = some (.slice a2 n2 c2) ∧ w'.cell? ⟨W.heap.size + 1, 3, none⟩ = some (.int .i64 o2))
      (first | exact ⟨x0, x1, x2, x3⟩ | exact ⟨k0, k1, k2, k3⟩ | go_keep)
      ((first
        | (go_at_call 28; refine HCl.out.mono ?_; rintro e V3 ⟨a', c', rfl, hO, hb⟩; have HF3 := hide (HS.out V3 hb); obtain ⟨k0, k1, k2, k3⟩ := four_of HF3.out.w; obtain ⟨p0, p1, p2, p3⟩ := four_of HF3.out.r; obtain ⟨r0, r1, r2, r3⟩ := four_fr HF3.out.r)))
    all_goals
      have HO3 := hide (Cde.own_mono hO (show W.heap.size ≤ V2.drew.heap.size from HF1.out.lo.size))
      clear k0 k1 k2 k3 p0 p1 p2 p3 r0 r1 r2 r3 hO hb HCl HS x0 x1 x2 x3
      have hq := own_ne HO3.out HF3.out.r (by decide)
      have HO4 := hide (s4_own HO3.out hq (.int .i64 f) (.int .i64 d) (.slice a' n2 c') (.int .i64 o2))
      have HF4 := hide (HF3.out.put (.int .i64 f) (.int .i64 d) (.slice a' n2 c') (.int .i64 o2))
      obtain ⟨V4, hV4⟩ : ∃ V4, (((V3.setCell ⟨W.heap.size + 1 + 1, 0, none⟩ (.int .i64 f)).setCell ⟨W.heap.size + 1 + 1, 1, none⟩ (.int .i64 d)).setCell ⟨W.heap.size + 1 + 1, 2, none⟩ (.slice a' n2 c')).setCell ⟨W.heap.size + 1 + 1, 3, none⟩ (.int .i64 o2) = V4 := ⟨_, rfl⟩
      unfold s4 at HO4 HF4
      rw [hV4] at HO4 HF4 ⊢
      clear hV4 hq HF3 HO3
      go_wp2_with fail
      obtain ⟨q0, q1, q2, q3⟩ := four_of HF4.out.r
      exact bodyPost_ret (v := .agg (cd f d a' n2 c' o2)) (by simp [results, Tryz.results12, go_sem, q0, q1, q2, q3]) rfl (.inr ⟨by rw [HEr.out]; exact h0, _, _, rfl, HO4.out, HF4.out.lo⟩)

end Go.Proofs.Fld
