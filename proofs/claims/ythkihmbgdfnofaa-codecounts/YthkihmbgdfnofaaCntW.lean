/-
  The walk of CodeCounts.
-/
import Derived.Test.YthkihmbgdfnofaaCntP
namespace Go.Proofs.Ythkihmbgdfnofaa
open Go.RowKit Go.IntWalk Knd Go.Sort
set_option linter.unusedVariables false

theorem same_below {V : World} {a1 a2 : Option Addr} {n1 n2 c1 c2 : Nat} {z : List Int} (h1 : Ints V a1 n1 c1 z) (h2 : Ints V a2 n2 c2 z) :
    Calls Try.prog 16 #[.slice a1 n1 c1, .slice a2 n2 c2] V fun e w' => e = .returned (.bool true) ∧ Below V.heap.size V w' := by
  refine (Knd.sameI_self a1 a2 n1 n2 c1 c2 z V h1 h2).mono ?_
  rintro e w' ⟨he, q, rfl⟩
  exact ⟨he, below_dN V q⟩

set_option maxRecDepth 100000 in
set_option maxHeartbeats 16000000 in
theorem counts_walk (f d out : Int) {a : Option Addr} {n cap : Nat} {L : List In} (W : World) (hL : Ins W a n cap L) (hs : n ≤ 2932031007317) :
    Calls Try.prog 4 #[.agg (cd f d a n cap out)] W fun e W' => e = .returned (.bool true) ∧ Below W.heap.size W W' := by
  have hb1 := bel1 W (.cells (cd f d a n cap out) 26)
  have HC0 := hide (HasC.new W 26 (cd f d a n cap out))
  have HB0 := hide hb1
  have HR := hide (roomyC_any f d out (hL.later hb1) (by omega))
  have HLI := hide hL
  have HLn := hide hL.len
  have HA := hide fun w => awake_any w
  obtain ⟨Z, hZ⟩ : ∃ Z, usZ f d L out = Z := ⟨_, rfl⟩
  have HLl := hide (us_few f d out L)
  have HV1 := hide fun (V : World) (g c p1 : Nat) (h : Cq W V f d out a n cap L g c p1) => cuses_any f d out h.ins
  have HV2 := hide fun (V : World) (g c p1 : Nat) (h : Cq W V f d out a n cap L g c p1) => xuses_any f d out (hL.later h.old)
  have HK1 := hide fun (V : World) (g c p1 : Nat) (h : Cq W V f d out a n cap L g c p1) => ccost_any f d out h.ins (by omega)
  have HK2 := hide fun (V : World) (g c p1 : Nat) (h : Cq W V f d out a n cap L g c p1) => xcost_any f d out (hL.later h.old) (by omega)
  have HH1 := hide fun (V : World) (g c p1 : Nat) (h : Cq W V f d out a n cap L g c p1) => heldC_any f d out (roomy_ins h.I) (hL.later h.old)
  rw [hZ] at HLl HV1 HV2
  generalize coL L = co at *
  clear hb1 hL hZ
  obtain ⟨er, D⟩ := Z
  simp only at HLl
  go_enter Try.func4, Try.ntmps4
  go_wp2_with fail
  refine HR.out.mono ?_
  rintro e V1 ⟨g, c, rfl, hO, hb⟩
  have hbu := bel1 V1 (.cells (cd f d (some ⟨g, 0, none⟩) n c out) 26)
  have HQ2 : Hid (Cq W (V1.alloc (.cells (cd f d (some ⟨g, 0, none⟩) n c out) 26)) f d out a n cap L g c V1.heap.size) :=
    hide ⟨bel (bel HB0.out hb) hbu, (HC0.out.below hb).below hbu, HasC.new V1 26 _, own_mono (own_later hO hbu) HB0.out.size⟩
  clear hb hbu hO HR HC0 HB0
  go_wp2_with fail
  obtain ⟨V2, hV2⟩ : ∃ V2, V1.alloc (.cells (cd f d (some ⟨g, 0, none⟩) n c out) 26) = V2 := ⟨_, rfl⟩
  rw [hV2] at HQ2 ⊢
  generalize V1.heap.size = p1 at *
  clear hV2
  refine (HV1.out _ _ _ _ HQ2.out).mono ?_
  rintro e V3 ⟨a1, c1, rfl, hO1, hb⟩
  simp only at hO1 ⊢
  have HQ3 := hide (HQ2.out.later hb)
  have HL3 := hide hO1
  have HS3 := hide hO1.lt
  clear hb hO1
  obtain ⟨x0, x1, x2, x3⟩ := four_of HQ3.out.b0
  go_wp2_with fail
  refine (HV2.out _ _ _ _ HQ3.out).mono ?_
  rintro e V4 ⟨a2, c2, rfl, hO2, hb⟩
  simp only at hO2 ⊢
  have HQ4 := hide (HQ3.out.later hb)
  have HL4 := hide (own_later HL3.out hb)
  have HM4 := hide (tw_ints hO2)
  have HZ4 := hide hb.size
  clear hb hO2 HL3 x0 x1 x2 x3 HV2
  obtain ⟨x0, x1, x2, x3⟩ := four_of HQ4.out.u
  go_wp2_with fail
  refine (HV1.out _ _ _ _ HQ4.out).mono ?_
  rintro e V5 ⟨a3, c3, rfl, hO3, hb⟩
  simp only at hO3 ⊢
  have HQ5 := hide (HQ4.out.later hb)
  have HL5 := hide (own_later HL4.out hb)
  have HM5 := hide (HM4.out.later hb)
  have HK5 := hide hO3
  have HS5 := hide hO3.lt
  clear hb hO3 HL4 HM4 x0 x1 x2 x3 HV1
  obtain ⟨x0, x1, x2, x3⟩ := four_of HQ5.out.b0
  obtain ⟨y0, y1, y2, y3⟩ := four_of HQ5.out.u
  have k0 := cell_regrown x0
  have k1 := cell_regrown x1
  have k2 := cell_regrown x2
  have k3 := cell_regrown x3
  have j0 := cell_regrown y0
  have j1 := cell_regrown y1
  have j2 := cell_regrown y2
  have j3 := cell_regrown y3
  go_wp2_with fail
  refine wp_region_quiet_below mixed0 (by kernel_rfl) ?_
  go_big_quiet_step ((go_at_call 11; exact Calls.regrown_of (HA.out _)))
  repeat (go_big_quiet_step (fail))
  go_big_quiet_step ((go_at_call 16; exact Calls.regrown_of (same_below ((tw_ints HL5.out).later (below_regrown _ _ _)) (HM5.out.later (below_regrown _ _ _)))))
  repeat (go_big_quiet_step (fail))
  go_big_quiet_step ((go_at_call 16; exact Calls.regrown_of (same_below ((tw_ints HK5.out).later (below_regrown _ _ _)) (HM5.out.later (below_regrown _ _ _)))))
  repeat (go_big_quiet_step (fail))
  go_big_quiet_step ((go_at_call 17; exact Calls.regrown_of (HK1.out _ _ _ _ (HQ5.out.later (below_regrown _ _ _)))))
  repeat (go_big_quiet_step (fail))
  go_big_quiet_step ((go_at_call 18; exact Calls.regrown_of (HK2.out _ _ _ _ (HQ5.out.later (below_regrown _ _ _)))))
  repeat (go_big_quiet_step (fail))
  refine wpQuiet_nil ?_
  intro V6 hw'
  obtain ⟨⟨dq, osq⟩, hw''⟩ := hw'
  have hb := below_regrown V5 dq osq
  simp only at hw''
  rw [← hw''] at hb
  clear hw'' k0 k1 k2 k3 j0 j1 j2 j3 x0 x1 x2 x3 y0 y1 y2 y3
  have HQ6 := hide (HQ5.out.later hb)
  have HL6 := hide (own_later HL5.out hb)
  have HK6 := hide (own_later HK5.out hb)
  clear hb HL5 HK5 HM5 HK1 HK2 HA
  go_wp2_with fail
  have hd : ∀ q, Value.ownBlock (.slice a1 D.length c1) = some q → Value.ownBlock (.slice a3 D.length c3) ≠ some q := by
    intro q hq hq2
    have h1 := HS3.out q hq
    have h2 := HS5.out q hq2
    have h3 := HZ4.out
    omega
  have hB3 : W.heap.size ≤ V2.heap.size := HQ2.out.old.size
  have hB5 : W.heap.size ≤ V4.heap.size := HQ4.out.old.size
  have HLi := hide (Li.two (B := W.heap.size) HQ6.out.old.size (own_mono HL6.out hB3) (own_mono HK6.out hB5) hd HLl.out HLl.out)
  have HQ7 := hide (HQ6.out.later (bel1 V6 (.cells #[.slice a1 D.length c1, .slice a3 D.length c3] 33)))
  clear hd hB3 hB5 HL6 HK6 HS3 HS5 HZ4 HQ2 HQ3 HQ4 HQ5 HQ6
  go_loopw [10, 11] (fun vl i wr => ∃ (k : Nat) (v : Nat → Value) (nn : Nat → Nat), k ≤ n ∧ i = .int .i64 k ∧ Hid (Li W.heap.size wr vl (k + 2) v nn) ∧ Hid (Cq W wr f d out a n cap L g c p1)) (fun _ i _ => n - (intOf i).toNat)
  case atStart => exact ⟨0, _, _, Nat.zero_le _, rfl, HLi, HQ7⟩
  case round =>
    obtain ⟨k, v, nn, hk, rfl, HLk, HQ⟩ := hrel
    rename World => V
    clear HLi HQ7
    obtain ⟨x0, x1, x2, x3⟩ := four_of HQ.out.b0
    by_cases hlt : k < n
    · obtain ⟨b, off, rfl, -, hat⟩ := (HLI.out.later HQ.out.old).at (by omega)
      obtain ⟨e0, e1, e2, e3, e4, e5⟩ := hat k hlt
      clear hat
      have hi0 : (0 : Int) ≤ k := by omega
      have hi1 : (k : Int) < n := by omega
      have HAt : Hid (∀ V', Below V.heap.size V V' → at6 V' b (off + k * 6) (L.getD k i0)) := hide fun V' hb => by
        obtain ⟨_, _, he, -, hat⟩ := ((HLI.out.later HQ.out.old).later hb).at (by omega)
        cases he
        exact hat k hlt
      generalize L.getD k i0 = m at *
      have HA1 := hide fun w => cargs_ex m w
      have HA2 := hide fun w => xargs_any m w
      go_wp2_with fail
      refine (HA1.out _).mono ?_
      rintro e V8 ⟨ga, rfl, hga, hG, hb⟩
      have HQ8 := hide (HQ.out.later hb)
      have HB8 := hide hb
      have HG8 := hide hG
      have HGa := hide hga
      clear hb hG hga x0 x1 x2 x3 e0 e1 e2 e3 e4 e5 HA1
      obtain ⟨x0, x1, x2, x3⟩ := four_of HQ8.out.b0
      obtain ⟨e0, e1, e2, e3, e4, e5⟩ := HAt.out V8 HB8.out
      go_wp2_with fail
      refine (HA2.out _).mono ?_
      rintro e V9 ⟨gb, rfl, hgb, hG2, hb⟩
      have HQ9 := hide (HQ8.out.later hb)
      have HB9 := hide (bel HB8.out hb)
      have HG9 := hide (HG8.out.below hb)
      have HSm := hide (same_below (args_ints HG9.out) (args_ints hG2))
      clear hb hG2 hgb x0 x1 x2 x3 e0 e1 e2 e3 e4 e5 HA2 HQ8 HB8 HG8 HAt
      go_wp2_with fail
      refine HSm.out.mono ?_
      rintro e V10 ⟨rfl, hb⟩
      have HQ10 := hide (HQ9.out.later hb)
      have HB10 := hide (bel HB9.out hb)
      have HG10 := hide (HG9.out.below hb)
      have h3 := arN_le m
      have HX := hide (args_own (HG10.out.alloc (.cells #[.slice (some ⟨ga, 0, none⟩) (arN m) 3] 33)) HGa.out)
      have HQ11 := hide (HQ10.out.later (bel1 V10 (.cells #[.slice (some ⟨ga, 0, none⟩) (arN m) 3] 33)))
      have HB11 := hide (bel HB10.out (bel1 V10 (.cells #[.slice (some ⟨ga, 0, none⟩) (arN m) 3] 33)))
      have hk2 : k + 2 ≤ 2999999999999 := by omega
      clear hb HQ9 HB9 HG9 HSm HGa
      generalize arN m = r at *
      go_wp2_with (at_builtin; refine list_li (w := V) rfl _ _ rfl rfl HLk.out HB11.out HX.out (by omega) _ rfl (HasC.new _ _ _) rfl hk2 ?_; intro g2 cap2 w2 HE2 hg2; have HQ12 := hide (HQ11.out.grown (HLk.out.later HB11.out).own hg2); have HE3 := hide HE2; clear HE2 hg2)
      go_roundw
      case rel => exact ⟨k + 1, _, _, by omega, by go_num, HE3, HQ12⟩
      case measure => simp [intOf]; omega
    · obtain rfl : k = n := by omega
      obtain ⟨l, lc, rfl, hLs⟩ := HLk.out.lists (by omega) (by omega)
      have HAp := hide (Ap.apart_any l (k + 2) lc v nn V hLs)
      have HOf : Hid (∀ b, Ap.Of (k + 2) v b → W.heap.size ≤ b ∧ ∃ cs fr, V.heap[b]? = some (.cells cs 3 fr)) := hide fun b ⟨i, hi, hb⟩ => by
        obtain ⟨xs, hx⟩ := HLk.out.row i hi
        exact owns_block hx b hb
      clear hLs
      go_wp2_with fail
      refine HAp.out.mono ?_
      rintro e V8 ⟨rfl, hK⟩
      have HQ8 := hide (HQ.out.keeps hK HOf.out)
      clear hK x0 x1 x2 x3
      obtain ⟨x0, x1, x2, x3⟩ := four_of HQ8.out.b0
      obtain ⟨y0, y1, y2, y3⟩ := four_of HQ8.out.u
      go_wp2_with fail
      refine (HH1.out _ _ _ _ HQ8.out).mono ?_
      rintro e V9 ⟨rfl, hb⟩
      have HB9 := hide (bel HQ8.out.old hb)
      clear hb
      go_wp2_with fail
      go_ret
      exact ⟨rfl, HB9.out⟩

end Go.Proofs.Ythkihmbgdfnofaa
