/-
  share.Share: what it answers.
-/
import Derived.Test.YtncdekefhonljaaGreatMG4
namespace Go.Proofs.Shr
open Go.RowKit Go.IntWalk YtncdekefhonljaaGreat.Knd
open Cde (In i0 ia kd cd Ins at6 six_of four_of two_of has_new1 okI okT below_drew is6 i6)
open Vfy (vfE vfN vfC)
set_option linter.unusedVariables false

/-- What Share answers: a code of the call's own, and an error. -/
def foI (f d : Int) (L : List In) (out : Int) : List In := if vfE f d L out = 0 then sdL f d L out else []
def foU (f d : Int) (L : List In) (out : Int) : Int := if vfE f d L out = 0 then sdO f d L out else 0
def foK (f d : Int) (L : List In) (out x : Int) : Int := if vfE f d L out = 0 then x else 0
def FoP (w : World) (f d : Int) (L : List In) (out : Int) (e : Ending) (W' : World) : Prop :=
  ∃ a c, e = .returned (.tuple #[.agg (cd (foK f d L out f) (foK f d L out d) a (foI f d L out).length c (foU f d L out)), .int .i64 (vfE f d L out)]) ∧ W'.ownsRow w.heap.size 39 6 (.slice a (foI f d L out).length c) (foI f d L out).length (is6 (foI f d L out)) ∧ Below w.heap.size w W'
theorem FoP.no {w W' : World} {f d : Int} {L : List In} {out er : Int} (h : vfE f d L out = er) (h0 : er ≠ 0) (hb : Below w.heap.size w W') : FoP w f d L out (.returned (.tuple #[.agg cdz, .int .i64 er])) W' := by
  subst h
  refine ⟨none, 0, ?_, ?_, hb⟩
  · simp [foK, foI, foU, h0]
  · rw [foI, if_neg h0]; exact ⟨rfl, .inl ⟨rfl, rfl⟩⟩
theorem FoP.row {w W' : World} {f d : Int} {L I : List In} {out u : Int} {a : Option Addr} {n c : Nat} (h : vfE f d L out = 0) (hI : sdL f d L out = I) (hu : sdO f d L out = u) (hn : I.length = n) (hO : W'.ownsRow w.heap.size 39 6 (.slice a n c) n (is6 I)) (hb : Below w.heap.size w W') : FoP w f d L out (.returned (.tuple #[.agg (cd f d a n c u), .int .i64 0])) W' := by
  subst hn hI hu
  refine ⟨a, c, ?_, ?_, hb⟩
  · simp [foK, foI, foU, h]
  · rw [foI, if_pos h]; exact hO
/-- Share's boxes. -/
structure Fg (W V : World) (cv rv : Array Value) : Prop where
  c : HasC V W.heap.size 26 cv
  r : HasC V (W.heap.size + 1) 26 rv
  lo : Below W.heap.size W V
theorem Fg.below {W V V' : World} {cv rv : Array Value} (h : Fg W V cv rv) (hb : Below V.heap.size V V') : Fg W V' cv rv := ⟨h.c.below hb, h.r.below hb, bel h.lo hb⟩
theorem Fg.put {W V : World} {cv : Array Value} {p q r s : Value} (h : Fg W V cv #[p, q, r, s]) (x y z u : Value) : Fg W (s4 V (W.heap.size + 1) x y z u) cv #[x, y, z, u] := by
  refine ⟨?_, (((h.r.set 0 x).set 1 y).set 2 z).set 3 u, ?_⟩
  · exact (((h.c.other (p := ⟨W.heap.size + 1, 0, none⟩) (by simp) _).other (p := ⟨W.heap.size + 1, 1, none⟩) (by simp) _).other (p := ⟨W.heap.size + 1, 2, none⟩) (by simp) _).other (p := ⟨W.heap.size + 1, 3, none⟩) (by simp) _
  · exact (((h.lo.setCell (p := ⟨W.heap.size + 1, 0, none⟩) (by simp) _).setCell (p := ⟨W.heap.size + 1, 1, none⟩) (by simp) _).setCell (p := ⟨W.heap.size + 1, 2, none⟩) (by simp) _).setCell (p := ⟨W.heap.size + 1, 3, none⟩) (by simp) _
/-- What harmless makes of it, in one form. -/
theorem harm_one {f d out : Int} {a1 a2 : Option Addr} {n c1 c2 : Nat} {L : List In} {W : World} (hL : L.length = n) (hO : W.ownsRow 0 39 6 (.slice a1 n c1) n (is6 (shF L).1)) (hI : Ins W a2 n c2 L) (hn0 : 0 < n) (hn : n ≤ 1000) :
    Calls Tryz.prog 12 #[.agg (cd f d a1 n c1 (shO L out)), .agg (cd f d a2 n c2 out)] W fun e W' => ∃ a' c', e = .returned (.agg (cd f d a' n c' (sdO f d L out))) ∧ (∀ base, W.ownsRow base 39 6 (.slice a1 n c1) n (is6 (shF L).1) → base ≤ W.heap.size → W'.ownsRow base 39 6 (.slice a' n c') n (is6 (sdL f d L out))) ∧ Below W.heap.size W W' := by
  obtain ⟨a', c', e', hM, -⟩ := Ins.of_owns hO
  cases e'
  refine (gharm_any f d (shO L out) out hM hI hn0 hn).mono ?_
  rintro e W' (⟨h0, rfl, hb⟩ | ⟨h0, a', c', rfl, ho, hb⟩)
  · exact ⟨_, _, by rw [sdO, if_pos h0], fun base h _ => by rw [sdL, if_pos h0]; exact Cde.own_later h hb, hb⟩
  · exact ⟨_, _, by rw [sdO, if_neg h0], fun base _ h => by rw [sdL, if_neg h0]; exact Cde.own_mono ho h, hb⟩

set_option maxRecDepth 100000 in
set_option maxHeartbeats 8000000 in
theorem gshare_any (f d out : Int) {a : Option Addr} {n cap : Nat} {L : List In} {W : World} (hL : Ins W a n cap L) :
    Calls Tryz.prog 5 #[.agg (cd f d a n cap out)] W (FoP W f d L out) := by
  have b1 := bel1 W (.cells (cd f d a n cap out) 26)
  have b2 := bel b1 (bel1 _ (.cells cdz 26))
  have HF0 : Hid (Fg W ((W.alloc (.cells (cd f d a n cap out) 26)).alloc (.cells cdz 26)) (cd f d a n cap out) cdz) :=
    hide ⟨(HasC.new W 26 (cd f d a n cap out)).alloc (.cells cdz 26), has_new1 W (.cells (cd f d a n cap out) 26) 26 cdz, b2⟩
  have HV := hide (Vfy.yverify_any f d out (hL.later b2))
  have HLI := hide hL
  have HLn := hide hL.len
  clear b1 b2 hL
  go_enter Tryz.func5, Tryz.ntmps5
  go_wp2_with fail
  refine HV.out.mono ?_
  rintro e V1 ⟨ga, gc, rfl, hS, hb, -, -⟩
  obtain ⟨m, hm⟩ : ∃ m, vfN f d L out = m := ⟨_, rfl⟩
  obtain ⟨co, hco⟩ : ∃ co, vfC f d L out = co := ⟨_, rfl⟩
  obtain ⟨er, her⟩ : ∃ er, vfE f d L out = er := ⟨_, rfl⟩
  rw [hm, hco, her]
  have HEr := hide her
  have hb2 := bel1 V1 (.cells #[.slice ga m gc, .int .i64 co, .int .i64 0] 42)
  have HF1 := hide ((HF0.out.below hb).below hb2)
  obtain ⟨x0, x1, x2, x3⟩ := four_of (HF0.out.below hb).c
  obtain ⟨p0, p1, p2, p3⟩ := four_of (HF0.out.below hb).r
  have z0 := (HF0.out.below hb).c.lt
  have z1 := (HF0.out.below hb).r.lt
  clear hm hco her hb hb2 hS HV HF0
  by_cases h0 : er = 0
  · have hr : (er != 0) = false := by simpa using h0
    go_upto_region 4 with fail
    obtain ⟨V2, hV2⟩ : ∃ V2, V1.alloc (.cells #[.slice ga m gc, .int .i64 co, .int .i64 0] 42) = V2 := ⟨_, rfl⟩
    rw [hV2] at HF1 ⊢
    clear x0 x1 x2 x3 p0 p1 p2 p3 z0 z1 hV2
    obtain ⟨x0, x1, x2, x3⟩ := four_of HF1.out.c
    have h0' := HEr.out.trans h0
    obtain ⟨mc, -⟩ := Vfy.vf_parts h0'
    obtain ⟨-, m1, m2, o0, o1, -⟩ := Cde.mc_parts mc
    rw [HLn.out] at m1 m2 o1
    have HFo := hide (gshared_any f d out ((HLI.out.later HF1.out.lo).later (below_drew V2)) h0')
    have HHa := hide fun (V : World) (a1 : Option Addr) (c1 : Nat) (hO : V.ownsRow 0 39 6 (.slice a1 n c1) n (is6 (shF L).1)) (hI : Ins V a n cap L) => harm_one (f := f) (d := d) (out := out) HLn.out hO hI (by omega) (by omega)
    have HS := hide fun V3 (hb : Below V2.drew.heap.size V2.drew V3) => (HF1.out.below (bel (below_drew V2) hb))
    clear mc
    go_region_held3 (fun w' => w'.cell? ⟨W.heap.size, 0, none⟩ = some (.int .i64 f) ∧ w'.cell? ⟨W.heap.size, 1, none⟩ = some (.int .i64 d) ∧ w'.cell? ⟨W.heap.size, 2, none⟩ = some (.slice a n cap) ∧ w'.cell? ⟨W.heap.size, 3, none⟩ = some (.int .i64 out))
      (first | exact ⟨x0, x1, x2, x3⟩ | exact ⟨l0, l1, l2, l3⟩ | exact ⟨k0, k1, k2, k3⟩ | go_keep)
      ((first
        | (go_at_call 13; refine HFo.out.mono ?_; rintro e V3 ⟨a', c', rfl, hO, hb⟩; have HF3 := hide (HS.out V3 hb); obtain ⟨k0, k1, k2, k3⟩ := four_of HF3.out.c)
        | (go_at_call 12; refine (HHa.out _ _ _ (Cde.own_mono hO (Nat.zero_le _)) (HLI.out.later HF3.out.lo)).mono ?_; rintro e V4 ⟨a2', c2', rfl, hO4, hb4⟩; have HF4 := hide (HF3.out.below hb4); obtain ⟨l0, l1, l2, l3⟩ := four_of HF4.out.c; obtain ⟨p0, p1, p2, p3⟩ := four_of HF4.out.r; obtain ⟨r0, r1, r2, r3⟩ := four_fr HF4.out.r)))
    all_goals
      have HO4 := hide (hO4 W.heap.size (Cde.own_mono hO (show W.heap.size ≤ V2.drew.heap.size from HF1.out.lo.size)) HF3.out.lo.size)
      clear k0 k1 k2 k3 l0 l1 l2 l3 p0 p1 p2 p3 r0 r1 r2 r3 hO hb hO4 hb4 HFo HHa HS x0 x1 x2 x3 HF3 h0 hr
      have hq := own_ne HO4.out HF4.out.r (by decide)
      have hlen := (sd_means h0').2.1
      rw [HLn.out] at hlen
      generalize hu : sdO f d L out = u at *
      generalize hI : sdL f d L out = I at *
      have HO5 := hide (s4_own HO4.out hq (.int .i64 f) (.int .i64 d) (.slice a2' n c2') (.int .i64 u))
      have HF5 := hide (HF4.out.put (.int .i64 f) (.int .i64 d) (.slice a2' n c2') (.int .i64 u))
      obtain ⟨V5, hV5⟩ : ∃ V5, (((V4.setCell ⟨W.heap.size + 1, 0, none⟩ (.int .i64 f)).setCell ⟨W.heap.size + 1, 1, none⟩ (.int .i64 d)).setCell ⟨W.heap.size + 1, 2, none⟩ (.slice a2' n c2')).setCell ⟨W.heap.size + 1, 3, none⟩ (.int .i64 u) = V5 := ⟨_, rfl⟩
      unfold s4 at HO5 HF5
      rw [hV5] at HO5 HF5 ⊢
      clear hV5 hq HF4 HO4
      go_wp2_with fail
      obtain ⟨q0, q1, q2, q3⟩ := four_of HF5.out.r
      exact bodyPost_ret (v := .tuple #[.agg (cd f d a2' n c2' u), .int .i64 0]) (by simp [results, Tryz.results5, go_sem, q0, q1, q2, q3]) rfl (FoP.row h0' hI hu hlen HO5.out HF5.out.lo)
  · have hr : (er != 0) = true := by simpa using h0
    go_upto_region 3 with fail
    obtain ⟨V2, hV2⟩ : ∃ V2, V1.alloc (.cells #[.slice ga m gc, .int .i64 co, .int .i64 0] 42) = V2 := ⟨_, rfl⟩
    rw [hV2] at HF1 ⊢
    clear x0 x1 x2 x3 p0 p1 p2 p3 z0 z1 hV2
    obtain ⟨p0, p1, p2, p3⟩ := four_of HF1.out.r
    obtain ⟨r0, r1, r2, r3⟩ := four_fr HF1.out.r
    obtain ⟨V3, hV3⟩ : ∃ V3, (((V2.setCell ⟨W.heap.size + 1, 0, none⟩ (.int .i64 0)).setCell ⟨W.heap.size + 1, 1, none⟩ (.int .i64 0)).setCell ⟨W.heap.size + 1, 2, none⟩ (.slice none 0 0)).setCell ⟨W.heap.size + 1, 3, none⟩ (.int .i64 0) = V3 := ⟨_, rfl⟩
    have HF2 : Hid (Fg W V3 (cd f d a n cap out) cdz) := hide (by rw [← hV3]; exact HF1.out.put (.int .i64 0) (.int .i64 0) (.slice none 0 0) (.int .i64 0))
    go_wp2_with fail
    obtain ⟨q0, q1, q2, q3⟩ := four_of HF2.out.r
    exact bodyPost_ret (v := .tuple #[.agg cdz, .int .i64 er]) (by simp [results, Tryz.results5, go_sem, q0, q1, q2, q3]) rfl (FoP.no HEr.out h0 HF2.out.lo)

end Go.Proofs.Shr
