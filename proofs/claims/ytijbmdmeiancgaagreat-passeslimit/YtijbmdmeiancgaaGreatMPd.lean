/-
  prune.Prune: what it answers.
-/
import Derived.Test.YtijbmdmeiancgaaGreatMPA
namespace Go.Proofs.Prn
open Go.RowKit Go.IntWalk YtijbmdmeiancgaaGreat.Knd
open Cde (In i0 ia kd cd Ins at6 six_of four_of two_of has_new1 okI okT below_drew is6 i6 mcB)
open Rdc (mixedF own_ne own_grow own_two cdz s4 four_fr s4_own)
open Vfy (vfE vfN vfC vfS)
set_option linter.unusedVariables false

/-- What Prune answers: a code of the call's own, and an error. -/
def foI (f d : Int) (L : List In) (out : Int) : List In := if vfE f d L out = 0 then prN L out else []
def foU (f d : Int) (L : List In) (out : Int) : Int := if vfE f d L out = 0 then prO L out else 0
def foK (f d : Int) (L : List In) (out x : Int) : Int := if vfE f d L out = 0 then x else 0
def FoP (w : World) (f d : Int) (L : List In) (out : Int) (e : Ending) (W' : World) : Prop :=
  ∃ a c, e = .returned (.tuple #[.agg (cd (foK f d L out f) (foK f d L out d) a (foI f d L out).length c (foU f d L out)), .int .i64 (vfE f d L out)]) ∧ W'.ownsRow w.heap.size 57 6 (.slice a (foI f d L out).length c) (foI f d L out).length (is6 (foI f d L out)) ∧ Below w.heap.size w W'
theorem FoP.no {w W' : World} {f d : Int} {L : List In} {out er : Int} (h : vfE f d L out = er) (h0 : er ≠ 0) (hb : Below w.heap.size w W') : FoP w f d L out (.returned (.tuple #[.agg cdz, .int .i64 er])) W' := by
  subst h
  refine ⟨none, 0, ?_, ?_, hb⟩
  · simp [foK, foI, foU, h0]
  · rw [foI, if_neg h0]; exact ⟨rfl, .inl ⟨rfl, rfl⟩⟩
theorem FoP.row {w W' : World} {f d : Int} {L I : List In} {out u : Int} {a : Option Addr} {n c : Nat} (h : vfE f d L out = 0) (hI : prN L out = I) (hu : prO L out = u) (hn : I.length = n) (hO : W'.ownsRow w.heap.size 57 6 (.slice a n c) n (is6 I)) (hb : Below w.heap.size w W') : FoP w f d L out (.returned (.tuple #[.agg (cd f d a n c u), .int .i64 0])) W' := by
  subst hn hI hu
  refine ⟨a, c, ?_, ?_, hb⟩
  · simp [foK, foI, foU, h]
  · rw [foI, if_pos h]; exact hO
/-- Prune's boxes. -/
structure Fg (W V : World) (cv rv : Array Value) : Prop where
  c : HasC V W.heap.size 26 cv
  r : HasC V (W.heap.size + 1) 26 rv
  lo : Below W.heap.size W V
theorem Fg.below {W V V' : World} {cv rv : Array Value} (h : Fg W V cv rv) (hb : Below V.heap.size V V') : Fg W V' cv rv := ⟨h.c.below hb, h.r.below hb, bel h.lo hb⟩
theorem put4 {W V : World} {p q r s : Value} (h : HasC V (W.heap.size + 1) 26 #[p, q, r, s]) (hl : Below W.heap.size W V) (x y z u : Value) : HasC (s4 V (W.heap.size + 1) x y z u) (W.heap.size + 1) 26 #[x, y, z, u] ∧ Below W.heap.size W (s4 V (W.heap.size + 1) x y z u) :=
  ⟨(((h.set 0 x).set 1 y).set 2 z).set 3 u, (((hl.setCell (p := ⟨W.heap.size + 1, 0, none⟩) (by simp) _).setCell (p := ⟨W.heap.size + 1, 1, none⟩) (by simp) _).setCell (p := ⟨W.heap.size + 1, 2, none⟩) (by simp) _).setCell (p := ⟨W.heap.size + 1, 3, none⟩) (by simp) _⟩

set_option maxRecDepth 100000 in
set_option maxHeartbeats 8000000 in
theorem pprune_any (f d out : Int) {a : Option Addr} {n cap : Nat} {L : List In} {W : World} (hL : Ins W a n cap L) :
    Calls Tryz.prog 77 #[.agg (cd f d a n cap out)] W (FoP W f d L out) := by
  have b1 := bel1 W (.cells (cd f d a n cap out) 26)
  have b2 := bel b1 (bel1 _ (.cells cdz 26))
  have HC0 := hide ((HasC.new W 26 (cd f d a n cap out)).alloc (.cells cdz 26))
  have HR0 := hide (has_new1 W (.cells (cd f d a n cap out) 26) 26 cdz)
  have HB0 := hide b2
  have HV := hide (Vfy.yverify_any f d out (hL.later b2))
  have HLI := hide hL
  have HLn := hide hL.len
  clear b1 b2 hL
  go_enter Tryz.func77, Tryz.ntmps77
  go_wp2_with fail
  refine HV.out.mono ?_
  rintro e V1 ⟨ga, gc, rfl, hS, hb, -, -⟩
  obtain ⟨m, hm⟩ : ∃ m, vfN f d L out = m := ⟨_, rfl⟩
  obtain ⟨co, hco⟩ : ∃ co, vfC f d L out = co := ⟨_, rfl⟩
  obtain ⟨er, her⟩ : ∃ er, vfE f d L out = er := ⟨_, rfl⟩
  rw [hm, hco, her]
  have HEr := hide her
  have hb2 := bel1 V1 (.cells #[.slice ga m gc, .int .i64 co, .int .i64 0] 47)
  have HF1 : Hid (Fg W (V1.alloc (.cells #[.slice ga m gc, .int .i64 co, .int .i64 0] 47)) (cd f d a n cap out) cdz) := hide ⟨(HC0.out.below hb).below hb2, (HR0.out.below hb).below hb2, bel (bel HB0.out hb) hb2⟩
  obtain ⟨x0, x1, x2, x3⟩ := four_of (HC0.out.below hb)
  obtain ⟨p0, p1, p2, p3⟩ := four_of (HR0.out.below hb)
  have z0 := (HC0.out.below hb).lt
  have z1 := (HR0.out.below hb).lt
  clear hm hco her hb hb2 hS HV HC0 HR0 HB0
  by_cases h0 : er = 0
  · have hr : (er != 0) = false := by simpa using h0
    go_upto_region 4 with fail
    obtain ⟨V2, hV2⟩ : ∃ V2, V1.alloc (.cells #[.slice ga m gc, .int .i64 co, .int .i64 0] 47) = V2 := ⟨_, rfl⟩
    rw [hV2] at HF1 ⊢
    clear x0 x1 x2 x3 p0 p1 p2 p3 z0 z1 hV2
    obtain ⟨x0, x1, x2, x3⟩ := four_of HF1.out.c
    have h0' := HEr.out.trans h0
    obtain ⟨mc, -⟩ := Vfy.vf_parts h0'
    have HP := hide (pc_of mc)
    have hlz : liZ f d L out = lvZ L out := if_pos mc
    obtain ⟨-, m1, m2, o0, o1, -⟩ := Cde.mc_parts mc
    rw [HLn.out] at m1 m2 o1
    have hFo := plive_any f d out ((HLI.out.later HF1.out.lo).later (below_drew V2))
    rw [hlz] at hFo
    have hll : (prN L out).length = (lvZ L out).length := by rw [prN_len, lvZ_len]
    obtain ⟨rl, hrl⟩ : ∃ rl, (lvZ L out).length = rl := ⟨_, rfl⟩
    rw [hrl] at hFo hll
    have HFo := hide hFo
    have HRl := hide hrl
    have HPl := hide hll
    have HHa := hide fun (V : World) (a1 : Option Addr) (c1 : Nat) (hI : Ins V a n cap L) (hO : Ints V a1 rl c1 (lvZ L out)) => pkept_any f d out hI HP.out m2 hO
    have HS := hide fun V3 (hb : Below V2.drew.heap.size V2.drew V3) => (HF1.out.below (bel (below_drew V2) hb))
    clear mc hFo hlz hll hrl
    go_region_held3 (fun w' => w'.cell? ⟨W.heap.size, 0, none⟩ = some (.int .i64 f) ∧ w'.cell? ⟨W.heap.size, 1, none⟩ = some (.int .i64 d) ∧ w'.cell? ⟨W.heap.size, 2, none⟩ = some (.slice a n cap) ∧ w'.cell? ⟨W.heap.size, 3, none⟩ = some (.int .i64 out))
      (first | exact ⟨x0, x1, x2, x3⟩ | exact ⟨l0, l1, l2, l3⟩ | exact ⟨k0, k1, k2, k3⟩ | exact ⟨u0, u1, u2, u3⟩ | go_keep)
      ((first
        | (go_at_call 111; refine HFo.out.mono ?_; rintro e V3 ⟨a', c', rfl, hO, hb⟩; have HF3 := hide (HS.out V3 hb); have HI3 := hide (HRl.out ▸ Cde.tw_ints (w := V2.drew) (a := a') (c := c') (D := lvZ L out) (by rw [HRl.out]; exact hO)); obtain ⟨k0, k1, k2, k3⟩ := four_of HF3.out.c)
        | (go_at_call 110; refine (HHa.out _ _ _ (HLI.out.later HF3.out.lo) HI3.out).mono ?_; rintro e V4 ⟨a2', c2', rfl, hO4, hb4⟩; have HF4 := hide (HF3.out.below hb4); obtain ⟨l0, l1, l2, l3⟩ := four_of HF4.out.c; obtain ⟨p0, p1, p2, p3⟩ := four_of HF4.out.r; obtain ⟨r0, r1, r2, r3⟩ := four_fr HF4.out.r; obtain ⟨u0, u1, u2, u3⟩ := four_of (HasC.other (HasC.other (HasC.other (HasC.other HF4.out.c (p := ⟨W.heap.size + 1, 0, none⟩) (show W.heap.size ≠ W.heap.size + 1 by omega) (.int .i64 f)) (p := ⟨W.heap.size + 1, 1, none⟩) (show W.heap.size ≠ W.heap.size + 1 by omega) (.int .i64 d)) (p := ⟨W.heap.size + 1, 2, none⟩) (show W.heap.size ≠ W.heap.size + 1 by omega) (.slice a2' rl c2')) (p := ⟨W.heap.size + 1, 3, none⟩) (show W.heap.size ≠ W.heap.size + 1 by omega) (.int .i64 (prO L out))))))
    all_goals
      have HO4 := hide (Cde.own_mono hO4 (show W.heap.size ≤ V3.heap.size from HF3.out.lo.size))
      clear u0 u1 u2 u3 k0 k1 k2 k3 l0 l1 l2 l3 p0 p1 p2 p3 r0 r1 r2 r3 hO hb hO4 hb4 HFo HHa HS x0 x1 x2 x3 HF3 HI3 h0 hr
      have hq := own_ne HO4.out HF4.out.r (by decide)
      generalize hu : prO L out = u at *
      generalize hI : prN L out = I at *
      have HO5 := hide (s4_own HO4.out hq (.int .i64 f) (.int .i64 d) (.slice a2' rl c2') (.int .i64 u))
      have HF5 := hide (put4 HF4.out.r HF4.out.lo (.int .i64 f) (.int .i64 d) (.slice a2' rl c2') (.int .i64 u))
      obtain ⟨V5, hV5⟩ : ∃ V5, (((V4.setCell ⟨W.heap.size + 1, 0, none⟩ (.int .i64 f)).setCell ⟨W.heap.size + 1, 1, none⟩ (.int .i64 d)).setCell ⟨W.heap.size + 1, 2, none⟩ (.slice a2' rl c2')).setCell ⟨W.heap.size + 1, 3, none⟩ (.int .i64 u) = V5 := ⟨_, rfl⟩
      unfold s4 at HO5 HF5
      rw [hV5] at HO5 HF5 ⊢
      clear hV5 hq HF4 HO4
      go_wp2_with fail
      obtain ⟨q0, q1, q2, q3⟩ := four_of HF5.out.1
      exact bodyPost_ret (v := .tuple #[.agg (cd f d a2' rl c2' u), .int .i64 0]) (by simp [results, Tryz.results77, go_sem, q0, q1, q2, q3]) rfl (FoP.row h0' hI hu HPl.out HO5.out HF5.out.2)
  · have hr : (er != 0) = true := by simpa using h0
    go_upto_region 3 with fail
    obtain ⟨V2, hV2⟩ : ∃ V2, V1.alloc (.cells #[.slice ga m gc, .int .i64 co, .int .i64 0] 47) = V2 := ⟨_, rfl⟩
    rw [hV2] at HF1 ⊢
    clear x0 x1 x2 x3 p0 p1 p2 p3 z0 z1 hV2
    obtain ⟨p0, p1, p2, p3⟩ := four_of HF1.out.r
    obtain ⟨r0, r1, r2, r3⟩ := four_fr HF1.out.r
    obtain ⟨V3, hV3⟩ : ∃ V3, (((V2.setCell ⟨W.heap.size + 1, 0, none⟩ (.int .i64 0)).setCell ⟨W.heap.size + 1, 1, none⟩ (.int .i64 0)).setCell ⟨W.heap.size + 1, 2, none⟩ (.slice none 0 0)).setCell ⟨W.heap.size + 1, 3, none⟩ (.int .i64 0) = V3 := ⟨_, rfl⟩
    have HF2 := hide (put4 HF1.out.r HF1.out.lo (.int .i64 0) (.int .i64 0) (.slice none 0 0) (.int .i64 0))
    unfold s4 at HF2
    rw [hV3] at HF2
    go_wp2_with fail
    obtain ⟨q0, q1, q2, q3⟩ := four_of HF2.out.1
    exact bodyPost_ret (v := .tuple #[.agg cdz, .int .i64 er]) (by simp [results, Tryz.results77, go_sem, q0, q1, q2, q3]) rfl (FoP.no HEr.out h0 HF2.out.2)

end Go.Proofs.Prn
