/-
  VerifyRefuses' walk.
-/
import Derived.Test.YtlhbgkaknfhlnaaYm
import Derived.Test.YtlhbgkaknfhlnaaYr
import Derived.Deep.RegionHeld3
import Derived.BigQuiet
namespace Go.Proofs.Vfy
open Go.RowKit Go.IntWalk Ytlhbgkaknfhlnaa.Knd
open Cde (In i0 ia kd cd Ins is6 coL four_of)
set_option linter.unusedVariables false

/-- The law's boxes, and the spans. -/
structure Rq (W V : World) (cv : Array Value) (ga : Option Addr) (m gc : Nat) (co : Int) (S : Sps) (br : Nat) : Prop where
  c : HasC V W.heap.size 26 cv
  r : HasC V br 32 #[.slice ga m gc, .int .i64 co, .int .i64 0]
  s : Ytlhbgkaknfhlnaa.Spn.Spans V ga m gc S
  lo : Below W.heap.size W V
theorem Rq.below {W V V' : World} {cv : Array Value} {ga : Option Addr} {m gc : Nat} {co : Int} {S : Sps} {br : Nat} (h : Rq W V cv ga m gc co S br) (hb : Below V.heap.size V V') : Rq W V' cv ga m gc co S br :=
  ⟨h.c.below hb, h.r.below hb, h.s.later hb, bel h.lo hb⟩
theorem Rq.drew {W V : World} {cv : Array Value} {ga : Option Addr} {m gc : Nat} {co : Int} {S : Sps} {br : Nat} (h : Rq W V cv ga m gc co S br) : Rq W V.drew cv ga m gc co S br := h.below (Cde.below_drew V)
/-- more, with the list just made. -/
theorem more_new (f d out : Int) {a : Option Addr} {n cap : Nat} {L : List In} {W : World} (hL : Ins W a n cap L) (hn : n ≤ 1000) (B : List In) (hB : B.length ≤ 1000) {er : Int} (he : vfE f d (L ++ B) out = er) (V : World) (hb : Below W.heap.size W V) :
    Calls Try.prog 11 #[.agg (cd f d a n cap out), .slice (some ⟨V.heap.size, 0, none⟩) B.length B.length] (V.alloc (.cells (is6 B).toArray 47)) fun e W' => e = .returned (.int .i64 er) ∧ Below V.heap.size V W' := by
  subst he
  have h1 := bel1 V (.cells (is6 B).toArray 47)
  exact (ymore_any f d out (hL.later (bel hb h1)) (Cde.has_ins (HasC.new V 47 (is6 B).toArray) (by omega)) hn (by omega)).mono fun e W' ⟨h2, h3⟩ => ⟨h2, bel h1 h3⟩

set_option maxRecDepth 100000 in
set_option maxHeartbeats 8000000 in
/-- The three that are refused, in one region. -/
theorem yrefuses_walk (f d out x : Int) {a : Option Addr} {n cap : Nat} {L : List In} {W : World} (hL : Ins W a n cap L) :
    Calls Try.prog 4 #[.agg (cd f d a n cap out), .int .i64 x] W fun e w' => e = .returned (.bool true) ∧ Below W.heap.size W w' := by
  have HA := hide fun V => yawake_any V
  have HB0 := hide (bel1 W (.cells (cd f d a n cap out) 26))
  have HC0 := hide (HasC.new W 26 (cd f d a n cap out))
  have HLI := hide hL
  have HLn := hide hL.len
  have hnn := hL.short
  have HV := hide (yverify_any f d out (hL.later HB0.out))
  clear hL
  go_enter Try.func4, Try.ntmps4
  go_wp2_with fail
  refine HV.out.mono ?_
  rintro e V1 ⟨ga, gc, rfl, hS, hb, -, -⟩
  obtain ⟨m, hm⟩ : ∃ m, vfN f d L out = m := ⟨_, rfl⟩
  obtain ⟨co, hco⟩ : ∃ co, vfC f d L out = co := ⟨_, rfl⟩
  obtain ⟨er, her⟩ : ∃ er, vfE f d L out = er := ⟨_, rfl⟩
  rw [hm] at hS ⊢
  rw [hco, her]
  have HM := hide hm
  have HCo := hide hco
  have HEr := hide her
  have hb2 := bel1 V1 (.cells #[.slice ga m gc, .int .i64 co, .int .i64 0] 32)
  have HQ0 : Hid (Rq W (V1.alloc (.cells #[.slice ga m gc, .int .i64 co, .int .i64 0] 32)) (cd f d a n cap out) ga m gc co (vfS f d L out) V1.heap.size) :=
    ⟨(HC0.out.below hb).below hb2, HasC.new _ _ _, hS.later hb2, bel (bel HB0.out hb) hb2⟩
  clear hm hco her hb hb2 hS HV HC0 HB0
  go_wp2_with fail
  generalize V1.heap.size = br at *
  refine (HA.out _).mono ?_
  rintro e V2 ⟨rfl, hb⟩
  have HQ1 := hide (HQ0.out.below hb)
  clear hb HQ0
  obtain ⟨c0, c1, c2, c3⟩ := four_of HQ1.out.c
  obtain ⟨r0, r1, r2, -, -, -⟩ := three_of HQ1.out.r
  by_cases h0 : er = 0
  · have hr : (er != 0) = false := by simpa using h0
    have h0' := HEr.out.trans h0
    obtain ⟨mB, -, -, q200, p4, p5⟩ := vf_parts h0'
    obtain ⟨-, m1, m2, -, -, -⟩ := Cde.mc_parts mB
    have e1 : m = n := by rw [← HM.out, p4, HLn.out]
    have e2 : coL L = co := by rw [← HCo.out, p5]
    subst e1
    rw [HLn.out] at m1 m2
    have HZ0 := hide h0'
    have HC2 := hide e2
    have q3 : ((m : Int) != (m : Int)) = false := by simp
    clear p4 p5 e2 h0 h0' mB q200
    by_cases h190 : 190 < m
    · have q4 : decide (190 < (m : Int)) = true := by simp; omega
      have q5 : decide (190 < m) = true := by simp; omega
      have q6 : (er == 0) = true := by simpa using hr
      go_wp2_with fail
      clear c0 c1 c2 c3 r0 r1 r2
      refine (HA.out _).mono ?_
      rintro e V3 ⟨rfl, hb⟩
      have HQ2 := hide (HQ1.out.below hb)
      obtain ⟨c0, c1, c2, c3⟩ := four_of HQ2.out.c
      obtain ⟨r0, r1, r2, -, -, -⟩ := three_of HQ2.out.r
      clear hb
      go_wp2_with fail
      go_ret
      exact ⟨rfl, HQ2.out.lo⟩
    · have q4 : decide (190 < (m : Int)) = false := by simp; omega
      have q5 : decide (190 < m) = false := by simp; omega
      obtain ⟨y, hy⟩ : ∃ y, Int.tmod x (m : Int) = y := ⟨_, rfl⟩
      have hmp : (0 : Int) < m := by omega
      have y1 : y < m := by rw [← hy]; exact Int.tmod_lt_of_pos _ hmp
      have y2 : -(m : Int) < y := by rw [← hy]; exact Int.lt_tmod_of_pos _ hmp
      have q6 : ((m : Int) == 0) = false := by simp; omega
      have q7 : (m == 0) = false := by simp; omega
      have HR1 := hide fun (i : Int) (h0 : 0 ≤ i) (h1 : i < m) => re_1 HZ0.out HLn.out (by omega) h0 h1
      have HR2 := hide fun (i : Int) (h0 : 0 ≤ i) (h1 : i < m) => re_2 HZ0.out HLn.out (by omega) h0 h1
      have HR3 := hide (re_3 (f := f) (d := d) (out := out) HLn.out)
      have HR4 := hide fun (i : Int) (h0 : 0 ≤ i) (h1 : i < m) => re_4 HZ0.out HLn.out (by omega) h0 h1
      have HKc := hide fun w => count_any f d w
      obtain ⟨i, i0, i1, hgo⟩ : ∃ i : Int, 0 ≤ i ∧ i < m ∧ ((y < 0 ∧ i = y + m) ∨ (¬ y < 0 ∧ i = y)) := by
        by_cases hy0 : y < 0
        · exact ⟨y + m, by omega, by omega, .inl ⟨hy0, rfl⟩⟩
        · exact ⟨y, by omega, by omega, .inr ⟨hy0, rfl⟩⟩
      have HM1 := hide fun (V : World) hb => more_new f d out HLI.out (by omega) [nN, nB 11 i m, nP (countZ f d)] (by simp) (HR1.out i i0 i1) V hb
      have HM2 := hide fun (V : World) hb => more_new f d out HLI.out (by omega) [nN, nB 12 i m] (by simp) (HR2.out i i0 i1) V hb
      have HM3 := hide fun (V : World) hb => more_new f d out HLI.out (by omega) [nM m] (by simp) HR3.out V hb
      have HM4 := hide fun (V : World) hb => more_new f d out HLI.out (by omega) [nM i] (by simp) rfl V hb
      generalize countZ f d = cz at *
      have HR5 := hide (HR4.out i i0 i1)
      rw [HC2.out] at HR5
      generalize vfS f d L out = S at *
      generalize vfE f d (L ++ [nM i]) out = e4 at *
      clear HR1 HR2 HR3 HR4
      have HQd := hide HQ1.out.drew
      rcases hgo with ⟨hy0, hi⟩ | ⟨hy0, hi⟩
      · have qy : decide (y < 0) = true := by simpa using hy0
        go_wp2_with fail
        rw [← hi]
        clear hi hy hy0 qy y1 y2 q6 q7 q4 q5 c0 c1 c2 c3 r0 r1 r2
        refine wp_region_held_drew (S := fun w => Rq W w (cd f d a m cap out) ga m gc co S br) (by kernel_rfl) HQd.out (fun _ => ?_)
        refine wpAnyH_take (i := 0) (v := (.agg (cd f d a m cap out))) rfl (by kernel_rfl) (by kernel_rfl) (by kernel_rfl) (fun _ _ _ h => h) (Or.inl ⟨by rfl, fun w hS => by obtain ⟨a0, a1, a2, a3⟩ := four_of hS.c; go_simp⟩) HQd.out ?_
        refine wpAnyH_take (i := 1) (v := (.agg #[.int .i64 1, .int .i64 0, .int .i64 0, .int .i64 0, .int .i64 0, .int .i64 0])) rfl (by kernel_rfl) (by kernel_rfl) (by kernel_rfl) (fun _ _ _ h => h) (Or.inl ⟨by rfl, fun w hS => by obtain ⟨a0, a1, a2, a3⟩ := four_of hS.c; go_simp⟩) HQd.out ?_
        refine wpAnyH_take (i := 2) (v := (.int .i64 i)) rfl (by kernel_rfl) (by kernel_rfl) (by kernel_rfl) (fun _ _ _ h => h) (Or.inl ⟨by rfl, fun w hS => by obtain ⟨a0, a1, a2, a3⟩ := four_of hS.c; go_simp⟩) HQd.out ?_
        refine wpAnyH_take (i := 3) (v := (.int .i64 (m : Int))) rfl (by kernel_rfl) (by kernel_rfl) (by kernel_rfl) (fun _ _ _ h => h) (Or.inl ⟨by rfl, fun w hS => by obtain ⟨a0, a1, a2, a3⟩ := four_of hS.c; go_simp⟩) HQd.out ?_
        refine wpAnyH_take (i := 4) (v := (.agg #[.int .i64 11, .int .i64 i, .int .i64 (m : Int), .int .i64 0, .int .i64 0, .int .i64 0])) rfl (by kernel_rfl) (by kernel_rfl) (by kernel_rfl) (fun _ _ _ h => h) (Or.inl ⟨by rfl, fun w hS => by obtain ⟨a0, a1, a2, a3⟩ := four_of hS.c; go_simp⟩) HQd.out ?_
        refine wpAnyH_take (i := 5) (v := (.pointer (some ⟨W.heap.size, 0, none⟩))) rfl (by kernel_rfl) (by kernel_rfl) (by kernel_rfl) (fun _ _ _ h => h) (Or.inl ⟨by rfl, fun w hS => by obtain ⟨a0, a1, a2, a3⟩ := four_of hS.c; go_simp⟩) HQd.out ?_
        refine wpAnyH_take (i := 6) (v := (.agg #[.int .i64 f, .int .i64 d])) rfl (by kernel_rfl) (by kernel_rfl) (by kernel_rfl) (fun _ _ _ h => h) (Or.inl ⟨by rfl, fun w hS => by obtain ⟨a0, a1, a2, a3⟩ := four_of hS.c; go_simp⟩) HQd.out ?_
        refine wpAnyH_ready (rs := [7]) (by kernel_rfl) (by simp) (AllReadyH.cons rfl (fun K hK => ?_) AllReadyH.nil)
        go_simp
        refine (HKc.out _).mono ?_
        rintro r U1 ⟨rfl, hb⟩
        have HQ2 := hide (HQd.out.below hb)
        clear hb HQd HKc
        refine hK.out _ _ HQ2.out (fun _ => ?_)
        clear hK K
        refine wpAnyH_take (i := 8) (v := (.agg #[.int .i64 3, .int .i64 0, .int .i64 0, .int .i64 0, .int .i64 cz, .int .i64 0])) rfl (by kernel_rfl) (by kernel_rfl) (by kernel_rfl) (fun _ _ _ h => h) (Or.inl ⟨by rfl, fun w hS => by obtain ⟨a0, a1, a2, a3⟩ := four_of hS.c; go_simp⟩) HQ2.out ?_
        refine wpAnyH_ready (rs := [9]) (by kernel_rfl) (by simp) (AllReadyH.cons rfl (fun K hK => ?_) AllReadyH.nil)
        go_simp
        have HQ3 := hide (HQ2.out.below (bel1 _ (.cells (is6 [nN, nB 11 i m, nP cz]).toArray 47)))
        refine hK.out _ _ HQ3.out (fun _ => ?_)
        clear hK K
        refine wpAnyH_ready (rs := [10]) (by kernel_rfl) (by simp) (AllReadyH.cons rfl (fun K hK => ?_) AllReadyH.nil)
        go_simp
        refine (HM1.out _ HQ2.out.lo).mono ?_
        rintro r U2 ⟨rfl, hb⟩
        have HQ4 := hide (HQ2.out.below hb)
        clear hb HQ2 HM1
        refine hK.out _ _ HQ4.out (fun _ => ?_)
        clear hK K
        refine wpAnyH_take (i := 11) (v := (.bool false)) rfl (by kernel_rfl) (by kernel_rfl) (by kernel_rfl) (fun _ _ _ h => h) (Or.inl ⟨by rfl, fun w hS => by obtain ⟨a0, a1, a2, a3⟩ := four_of hS.c; go_simp⟩) HQ4.out ?_
        refine wpAnyH_take (i := 12) (v := (.bool false)) rfl (by kernel_rfl) (by kernel_rfl) (by kernel_rfl) (fun _ _ _ h => h) (Or.inl ⟨by rfl, fun w hS => by obtain ⟨a0, a1, a2, a3⟩ := four_of hS.c; go_simp⟩) HQ4.out ?_
        refine wpAnyH_take (i := 13) (v := (.agg (cd f d a m cap out))) rfl (by kernel_rfl) (by kernel_rfl) (by kernel_rfl) (fun _ _ _ h => h) (Or.inl ⟨by first | (simp [Region.wanted, yielded]; done) | simp [Region.wanted, yielded, Act.put], fun w hS => by obtain ⟨a0, a1, a2, a3⟩ := four_of hS.c; go_simp⟩) HQ4.out ?_
        refine wpAnyH_take (i := 14) (v := (.agg #[.int .i64 1, .int .i64 0, .int .i64 0, .int .i64 0, .int .i64 0, .int .i64 0])) rfl (by kernel_rfl) (by kernel_rfl) (by kernel_rfl) (fun _ _ _ h => h) (Or.inl ⟨by first | (simp [Region.wanted, yielded]; done) | simp [Region.wanted, yielded, Act.put], fun w hS => by obtain ⟨a0, a1, a2, a3⟩ := four_of hS.c; go_simp⟩) HQ4.out ?_
        refine wpAnyH_take (i := 15) (v := (.int .i64 i)) rfl (by kernel_rfl) (by kernel_rfl) (by kernel_rfl) (fun _ _ _ h => h) (Or.inl ⟨by first | (simp [Region.wanted, yielded]; done) | simp [Region.wanted, yielded, Act.put], fun w hS => by obtain ⟨a0, a1, a2, a3⟩ := four_of hS.c; go_simp⟩) HQ4.out ?_
        refine wpAnyH_take (i := 16) (v := (.int .i64 (m : Int))) rfl (by kernel_rfl) (by kernel_rfl) (by kernel_rfl) (fun _ _ _ h => h) (Or.inl ⟨by first | (simp [Region.wanted, yielded]; done) | simp [Region.wanted, yielded, Act.put], fun w hS => by obtain ⟨a0, a1, a2, a3⟩ := four_of hS.c; go_simp⟩) HQ4.out ?_
        refine wpAnyH_take (i := 17) (v := (.agg #[.int .i64 12, .int .i64 i, .int .i64 (m : Int), .int .i64 0, .int .i64 0, .int .i64 0])) rfl (by kernel_rfl) (by kernel_rfl) (by kernel_rfl) (fun _ _ _ h => h) (Or.inl ⟨by first | (simp [Region.wanted, yielded]; done) | simp [Region.wanted, yielded, Act.put], fun w hS => by obtain ⟨a0, a1, a2, a3⟩ := four_of hS.c; go_simp⟩) HQ4.out ?_
        refine wpAnyH_ready (rs := [18]) (by kernel_rfl) (by simp) (AllReadyH.cons rfl (fun K hK => ?_) AllReadyH.nil)
        go_simp
        have HQ5 := hide (HQ4.out.below (bel1 _ (.cells (is6 [nN, nB 12 i m]).toArray 47)))
        refine hK.out _ _ HQ5.out (fun _ => ?_)
        clear hK K
        refine wpAnyH_ready (rs := [19]) (by kernel_rfl) (by simp) (AllReadyH.cons rfl (fun K hK => ?_) AllReadyH.nil)
        go_simp
        refine (HM2.out _ HQ4.out.lo).mono ?_
        rintro r U3 ⟨rfl, hb⟩
        have HQ6 := hide (HQ4.out.below hb)
        clear hb HQ4 HM2
        refine hK.out _ _ HQ6.out (fun _ => ?_)
        clear hK K
        refine wpAnyH_take (i := 20) (v := (.bool false)) rfl (by kernel_rfl) (by kernel_rfl) (by kernel_rfl) (fun _ _ _ h => h) (Or.inl ⟨by first | (simp [Region.wanted, yielded]; done) | simp [Region.wanted, yielded, Act.put], fun w hS => by obtain ⟨a0, a1, a2, a3⟩ := four_of hS.c; go_simp⟩) HQ6.out ?_
        refine wpAnyH_take (i := 21) (v := (.bool false)) rfl (by kernel_rfl) (by kernel_rfl) (by kernel_rfl) (fun _ _ _ h => h) (Or.inl ⟨by rfl, fun w hS => by obtain ⟨a0, a1, a2, a3⟩ := four_of hS.c; go_simp⟩) HQ6.out ?_
        refine wpAnyH_take (i := 22) (v := (.bool false)) rfl (by kernel_rfl) (by kernel_rfl) (by kernel_rfl) (fun _ _ _ h => h) (Or.inl ⟨by rfl, fun w hS => by obtain ⟨a0, a1, a2, a3⟩ := four_of hS.c; go_simp⟩) HQ6.out ?_
        refine wpAnyH_take (i := 23) (v := (.agg (cd f d a m cap out))) rfl (by kernel_rfl) (by kernel_rfl) (by kernel_rfl) (fun _ _ _ h => h) (Or.inl ⟨by first | (simp [Region.wanted, yielded]; done) | simp [Region.wanted, yielded, Act.put], fun w hS => by obtain ⟨a0, a1, a2, a3⟩ := four_of hS.c; go_simp⟩) HQ6.out ?_
        refine wpAnyH_take (i := 24) (v := (.int .i64 (m : Int))) rfl (by kernel_rfl) (by kernel_rfl) (by kernel_rfl) (fun _ _ _ h => h) (Or.inl ⟨by first | (simp [Region.wanted, yielded]; done) | simp [Region.wanted, yielded, Act.put], fun w hS => by obtain ⟨a0, a1, a2, a3⟩ := four_of hS.c; go_simp⟩) HQ6.out ?_
        refine wpAnyH_take (i := 25) (v := (.agg #[.int .i64 5, .int .i64 (m : Int), .int .i64 0, .int .i64 0, .int .i64 0, .int .i64 0])) rfl (by kernel_rfl) (by kernel_rfl) (by kernel_rfl) (fun _ _ _ h => h) (Or.inl ⟨by first | (simp [Region.wanted, yielded]; done) | simp [Region.wanted, yielded, Act.put], fun w hS => by obtain ⟨a0, a1, a2, a3⟩ := four_of hS.c; go_simp⟩) HQ6.out ?_
        refine wpAnyH_ready (rs := [26]) (by kernel_rfl) (by simp) (AllReadyH.cons rfl (fun K hK => ?_) AllReadyH.nil)
        go_simp
        have HQ7 := hide (HQ6.out.below (bel1 _ (.cells (is6 [nM m]).toArray 47)))
        refine hK.out _ _ HQ7.out (fun _ => ?_)
        clear hK K
        refine wpAnyH_ready (rs := [27]) (by kernel_rfl) (by simp) (AllReadyH.cons rfl (fun K hK => ?_) AllReadyH.nil)
        go_simp
        refine (HM3.out _ HQ6.out.lo).mono ?_
        rintro r U4 ⟨rfl, hb⟩
        have HQ8 := hide (HQ6.out.below hb)
        clear hb HQ6 HM3
        refine hK.out _ _ HQ8.out (fun _ => ?_)
        clear hK K
        refine wpAnyH_take (i := 28) (v := (.bool false)) rfl (by kernel_rfl) (by kernel_rfl) (by kernel_rfl) (fun _ _ _ h => h) (Or.inl ⟨by first | (simp [Region.wanted, yielded]; done) | simp [Region.wanted, yielded, Act.put], fun w hS => by obtain ⟨a0, a1, a2, a3⟩ := four_of hS.c; go_simp⟩) HQ8.out ?_
        refine wpAnyH_take (i := 29) (v := (.bool false)) rfl (by kernel_rfl) (by kernel_rfl) (by kernel_rfl) (fun _ _ _ h => h) (Or.inl ⟨by rfl, fun w hS => by obtain ⟨a0, a1, a2, a3⟩ := four_of hS.c; go_simp⟩) HQ8.out ?_
        refine wpAnyH_done (by kernel_rfl) ?_ _
        go_simp
        obtain ⟨x0, x1, x2, x3⟩ := four_of HQ8.out.c
        go_wp2_with fail
        refine (HM4.out _ HQ8.out.lo).mono ?_
        rintro e U5 ⟨rfl, hb⟩
        have HQ9 := hide (HQ8.out.below hb)
        clear hb HQ8 x0 x1 x2 x3 HM4
        obtain ⟨r0, r1, r2, -, -, -⟩ := three_of HQ9.out.r
        obtain ⟨b1, o1, rfl, -, hc1⟩ := HQ9.out.s.at (by omega)
        obtain ⟨j, hj⟩ : ∃ j : Nat, i = (j : Int) := ⟨i.toNat, by omega⟩
        obtain ⟨s0, -⟩ := hc1 j (by omega)
        rw [hj] at HR5 i0 i1 ⊢
        rw [Int.toNat_natCast] at HR5
        obtain ⟨lo, hlo⟩ : ∃ lo, (S.getD j (0, 0)).1 = lo := ⟨_, rfl⟩
        rw [hlo] at HR5 s0
        clear hc1 hlo hj
        by_cases hlo : lo = -2147483648
        · have e4' := HR5.out.1 hlo
          subst hlo e4'
          clear HR5
          go_wp2_with fail
          go_ret
          exact ⟨rfl, HQ9.out.lo⟩
        · have w1 : (lo == -2147483648) = false := by simpa using hlo
          by_cases h2 : co < 200
          · have e4' := (HR5.out.2 hlo).1 h2
            subst e4'
            have w2 : decide (co < 200) = true := by simpa using h2
            clear HR5 hlo h2
            go_wp2_with fail
            go_ret
            exact ⟨rfl, HQ9.out.lo⟩
          · have e4' := (HR5.out.2 hlo).2 (by omega)
            subst e4'
            have w2 : decide (co < 200) = false := by simpa using h2
            have w3 : decide (200 ≤ co) = true := by simp; omega
            clear HR5 hlo h2
            go_wp2_with fail
            go_ret
            exact ⟨rfl, HQ9.out.lo⟩

      · have qy : decide (y < 0) = false := by simpa using hy0
        go_wp2_with fail
        rw [← hi]
        clear hi hy hy0 qy y1 y2 q6 q7 q4 q5 c0 c1 c2 c3 r0 r1 r2
        refine wp_region_held_drew (S := fun w => Rq W w (cd f d a m cap out) ga m gc co S br) (by kernel_rfl) HQd.out (fun _ => ?_)
        refine wpAnyH_take (i := 0) (v := (.agg (cd f d a m cap out))) rfl (by kernel_rfl) (by kernel_rfl) (by kernel_rfl) (fun _ _ _ h => h) (Or.inl ⟨by rfl, fun w hS => by obtain ⟨a0, a1, a2, a3⟩ := four_of hS.c; go_simp⟩) HQd.out ?_
        refine wpAnyH_take (i := 1) (v := (.agg #[.int .i64 1, .int .i64 0, .int .i64 0, .int .i64 0, .int .i64 0, .int .i64 0])) rfl (by kernel_rfl) (by kernel_rfl) (by kernel_rfl) (fun _ _ _ h => h) (Or.inl ⟨by rfl, fun w hS => by obtain ⟨a0, a1, a2, a3⟩ := four_of hS.c; go_simp⟩) HQd.out ?_
        refine wpAnyH_take (i := 2) (v := (.int .i64 i)) rfl (by kernel_rfl) (by kernel_rfl) (by kernel_rfl) (fun _ _ _ h => h) (Or.inl ⟨by rfl, fun w hS => by obtain ⟨a0, a1, a2, a3⟩ := four_of hS.c; go_simp⟩) HQd.out ?_
        refine wpAnyH_take (i := 3) (v := (.int .i64 (m : Int))) rfl (by kernel_rfl) (by kernel_rfl) (by kernel_rfl) (fun _ _ _ h => h) (Or.inl ⟨by rfl, fun w hS => by obtain ⟨a0, a1, a2, a3⟩ := four_of hS.c; go_simp⟩) HQd.out ?_
        refine wpAnyH_take (i := 4) (v := (.agg #[.int .i64 11, .int .i64 i, .int .i64 (m : Int), .int .i64 0, .int .i64 0, .int .i64 0])) rfl (by kernel_rfl) (by kernel_rfl) (by kernel_rfl) (fun _ _ _ h => h) (Or.inl ⟨by rfl, fun w hS => by obtain ⟨a0, a1, a2, a3⟩ := four_of hS.c; go_simp⟩) HQd.out ?_
        refine wpAnyH_take (i := 5) (v := (.pointer (some ⟨W.heap.size, 0, none⟩))) rfl (by kernel_rfl) (by kernel_rfl) (by kernel_rfl) (fun _ _ _ h => h) (Or.inl ⟨by rfl, fun w hS => by obtain ⟨a0, a1, a2, a3⟩ := four_of hS.c; go_simp⟩) HQd.out ?_
        refine wpAnyH_take (i := 6) (v := (.agg #[.int .i64 f, .int .i64 d])) rfl (by kernel_rfl) (by kernel_rfl) (by kernel_rfl) (fun _ _ _ h => h) (Or.inl ⟨by rfl, fun w hS => by obtain ⟨a0, a1, a2, a3⟩ := four_of hS.c; go_simp⟩) HQd.out ?_
        refine wpAnyH_ready (rs := [7]) (by kernel_rfl) (by simp) (AllReadyH.cons rfl (fun K hK => ?_) AllReadyH.nil)
        go_simp
        refine (HKc.out _).mono ?_
        rintro r U1 ⟨rfl, hb⟩
        have HQ2 := hide (HQd.out.below hb)
        clear hb HQd HKc
        refine hK.out _ _ HQ2.out (fun _ => ?_)
        clear hK K
        refine wpAnyH_take (i := 8) (v := (.agg #[.int .i64 3, .int .i64 0, .int .i64 0, .int .i64 0, .int .i64 cz, .int .i64 0])) rfl (by kernel_rfl) (by kernel_rfl) (by kernel_rfl) (fun _ _ _ h => h) (Or.inl ⟨by rfl, fun w hS => by obtain ⟨a0, a1, a2, a3⟩ := four_of hS.c; go_simp⟩) HQ2.out ?_
        refine wpAnyH_ready (rs := [9]) (by kernel_rfl) (by simp) (AllReadyH.cons rfl (fun K hK => ?_) AllReadyH.nil)
        go_simp
        have HQ3 := hide (HQ2.out.below (bel1 _ (.cells (is6 [nN, nB 11 i m, nP cz]).toArray 47)))
        refine hK.out _ _ HQ3.out (fun _ => ?_)
        clear hK K
        refine wpAnyH_ready (rs := [10]) (by kernel_rfl) (by simp) (AllReadyH.cons rfl (fun K hK => ?_) AllReadyH.nil)
        go_simp
        refine (HM1.out _ HQ2.out.lo).mono ?_
        rintro r U2 ⟨rfl, hb⟩
        have HQ4 := hide (HQ2.out.below hb)
        clear hb HQ2 HM1
        refine hK.out _ _ HQ4.out (fun _ => ?_)
        clear hK K
        refine wpAnyH_take (i := 11) (v := (.bool false)) rfl (by kernel_rfl) (by kernel_rfl) (by kernel_rfl) (fun _ _ _ h => h) (Or.inl ⟨by rfl, fun w hS => by obtain ⟨a0, a1, a2, a3⟩ := four_of hS.c; go_simp⟩) HQ4.out ?_
        refine wpAnyH_take (i := 12) (v := (.bool false)) rfl (by kernel_rfl) (by kernel_rfl) (by kernel_rfl) (fun _ _ _ h => h) (Or.inl ⟨by rfl, fun w hS => by obtain ⟨a0, a1, a2, a3⟩ := four_of hS.c; go_simp⟩) HQ4.out ?_
        refine wpAnyH_take (i := 13) (v := (.agg (cd f d a m cap out))) rfl (by kernel_rfl) (by kernel_rfl) (by kernel_rfl) (fun _ _ _ h => h) (Or.inl ⟨by first | (simp [Region.wanted, yielded]; done) | simp [Region.wanted, yielded, Act.put], fun w hS => by obtain ⟨a0, a1, a2, a3⟩ := four_of hS.c; go_simp⟩) HQ4.out ?_
        refine wpAnyH_take (i := 14) (v := (.agg #[.int .i64 1, .int .i64 0, .int .i64 0, .int .i64 0, .int .i64 0, .int .i64 0])) rfl (by kernel_rfl) (by kernel_rfl) (by kernel_rfl) (fun _ _ _ h => h) (Or.inl ⟨by first | (simp [Region.wanted, yielded]; done) | simp [Region.wanted, yielded, Act.put], fun w hS => by obtain ⟨a0, a1, a2, a3⟩ := four_of hS.c; go_simp⟩) HQ4.out ?_
        refine wpAnyH_take (i := 15) (v := (.int .i64 i)) rfl (by kernel_rfl) (by kernel_rfl) (by kernel_rfl) (fun _ _ _ h => h) (Or.inl ⟨by first | (simp [Region.wanted, yielded]; done) | simp [Region.wanted, yielded, Act.put], fun w hS => by obtain ⟨a0, a1, a2, a3⟩ := four_of hS.c; go_simp⟩) HQ4.out ?_
        refine wpAnyH_take (i := 16) (v := (.int .i64 (m : Int))) rfl (by kernel_rfl) (by kernel_rfl) (by kernel_rfl) (fun _ _ _ h => h) (Or.inl ⟨by first | (simp [Region.wanted, yielded]; done) | simp [Region.wanted, yielded, Act.put], fun w hS => by obtain ⟨a0, a1, a2, a3⟩ := four_of hS.c; go_simp⟩) HQ4.out ?_
        refine wpAnyH_take (i := 17) (v := (.agg #[.int .i64 12, .int .i64 i, .int .i64 (m : Int), .int .i64 0, .int .i64 0, .int .i64 0])) rfl (by kernel_rfl) (by kernel_rfl) (by kernel_rfl) (fun _ _ _ h => h) (Or.inl ⟨by first | (simp [Region.wanted, yielded]; done) | simp [Region.wanted, yielded, Act.put], fun w hS => by obtain ⟨a0, a1, a2, a3⟩ := four_of hS.c; go_simp⟩) HQ4.out ?_
        refine wpAnyH_ready (rs := [18]) (by kernel_rfl) (by simp) (AllReadyH.cons rfl (fun K hK => ?_) AllReadyH.nil)
        go_simp
        have HQ5 := hide (HQ4.out.below (bel1 _ (.cells (is6 [nN, nB 12 i m]).toArray 47)))
        refine hK.out _ _ HQ5.out (fun _ => ?_)
        clear hK K
        refine wpAnyH_ready (rs := [19]) (by kernel_rfl) (by simp) (AllReadyH.cons rfl (fun K hK => ?_) AllReadyH.nil)
        go_simp
        refine (HM2.out _ HQ4.out.lo).mono ?_
        rintro r U3 ⟨rfl, hb⟩
        have HQ6 := hide (HQ4.out.below hb)
        clear hb HQ4 HM2
        refine hK.out _ _ HQ6.out (fun _ => ?_)
        clear hK K
        refine wpAnyH_take (i := 20) (v := (.bool false)) rfl (by kernel_rfl) (by kernel_rfl) (by kernel_rfl) (fun _ _ _ h => h) (Or.inl ⟨by first | (simp [Region.wanted, yielded]; done) | simp [Region.wanted, yielded, Act.put], fun w hS => by obtain ⟨a0, a1, a2, a3⟩ := four_of hS.c; go_simp⟩) HQ6.out ?_
        refine wpAnyH_take (i := 21) (v := (.bool false)) rfl (by kernel_rfl) (by kernel_rfl) (by kernel_rfl) (fun _ _ _ h => h) (Or.inl ⟨by rfl, fun w hS => by obtain ⟨a0, a1, a2, a3⟩ := four_of hS.c; go_simp⟩) HQ6.out ?_
        refine wpAnyH_take (i := 22) (v := (.bool false)) rfl (by kernel_rfl) (by kernel_rfl) (by kernel_rfl) (fun _ _ _ h => h) (Or.inl ⟨by rfl, fun w hS => by obtain ⟨a0, a1, a2, a3⟩ := four_of hS.c; go_simp⟩) HQ6.out ?_
        refine wpAnyH_take (i := 23) (v := (.agg (cd f d a m cap out))) rfl (by kernel_rfl) (by kernel_rfl) (by kernel_rfl) (fun _ _ _ h => h) (Or.inl ⟨by first | (simp [Region.wanted, yielded]; done) | simp [Region.wanted, yielded, Act.put], fun w hS => by obtain ⟨a0, a1, a2, a3⟩ := four_of hS.c; go_simp⟩) HQ6.out ?_
        refine wpAnyH_take (i := 24) (v := (.int .i64 (m : Int))) rfl (by kernel_rfl) (by kernel_rfl) (by kernel_rfl) (fun _ _ _ h => h) (Or.inl ⟨by first | (simp [Region.wanted, yielded]; done) | simp [Region.wanted, yielded, Act.put], fun w hS => by obtain ⟨a0, a1, a2, a3⟩ := four_of hS.c; go_simp⟩) HQ6.out ?_
        refine wpAnyH_take (i := 25) (v := (.agg #[.int .i64 5, .int .i64 (m : Int), .int .i64 0, .int .i64 0, .int .i64 0, .int .i64 0])) rfl (by kernel_rfl) (by kernel_rfl) (by kernel_rfl) (fun _ _ _ h => h) (Or.inl ⟨by first | (simp [Region.wanted, yielded]; done) | simp [Region.wanted, yielded, Act.put], fun w hS => by obtain ⟨a0, a1, a2, a3⟩ := four_of hS.c; go_simp⟩) HQ6.out ?_
        refine wpAnyH_ready (rs := [26]) (by kernel_rfl) (by simp) (AllReadyH.cons rfl (fun K hK => ?_) AllReadyH.nil)
        go_simp
        have HQ7 := hide (HQ6.out.below (bel1 _ (.cells (is6 [nM m]).toArray 47)))
        refine hK.out _ _ HQ7.out (fun _ => ?_)
        clear hK K
        refine wpAnyH_ready (rs := [27]) (by kernel_rfl) (by simp) (AllReadyH.cons rfl (fun K hK => ?_) AllReadyH.nil)
        go_simp
        refine (HM3.out _ HQ6.out.lo).mono ?_
        rintro r U4 ⟨rfl, hb⟩
        have HQ8 := hide (HQ6.out.below hb)
        clear hb HQ6 HM3
        refine hK.out _ _ HQ8.out (fun _ => ?_)
        clear hK K
        refine wpAnyH_take (i := 28) (v := (.bool false)) rfl (by kernel_rfl) (by kernel_rfl) (by kernel_rfl) (fun _ _ _ h => h) (Or.inl ⟨by first | (simp [Region.wanted, yielded]; done) | simp [Region.wanted, yielded, Act.put], fun w hS => by obtain ⟨a0, a1, a2, a3⟩ := four_of hS.c; go_simp⟩) HQ8.out ?_
        refine wpAnyH_take (i := 29) (v := (.bool false)) rfl (by kernel_rfl) (by kernel_rfl) (by kernel_rfl) (fun _ _ _ h => h) (Or.inl ⟨by rfl, fun w hS => by obtain ⟨a0, a1, a2, a3⟩ := four_of hS.c; go_simp⟩) HQ8.out ?_
        refine wpAnyH_done (by kernel_rfl) ?_ _
        go_simp
        obtain ⟨x0, x1, x2, x3⟩ := four_of HQ8.out.c
        go_wp2_with fail
        refine (HM4.out _ HQ8.out.lo).mono ?_
        rintro e U5 ⟨rfl, hb⟩
        have HQ9 := hide (HQ8.out.below hb)
        clear hb HQ8 x0 x1 x2 x3 HM4
        obtain ⟨r0, r1, r2, -, -, -⟩ := three_of HQ9.out.r
        obtain ⟨b1, o1, rfl, -, hc1⟩ := HQ9.out.s.at (by omega)
        obtain ⟨j, hj⟩ : ∃ j : Nat, i = (j : Int) := ⟨i.toNat, by omega⟩
        obtain ⟨s0, -⟩ := hc1 j (by omega)
        rw [hj] at HR5 i0 i1 ⊢
        rw [Int.toNat_natCast] at HR5
        obtain ⟨lo, hlo⟩ : ∃ lo, (S.getD j (0, 0)).1 = lo := ⟨_, rfl⟩
        rw [hlo] at HR5 s0
        clear hc1 hlo hj
        by_cases hlo : lo = -2147483648
        · have e4' := HR5.out.1 hlo
          subst hlo e4'
          clear HR5
          go_wp2_with fail
          go_ret
          exact ⟨rfl, HQ9.out.lo⟩
        · have w1 : (lo == -2147483648) = false := by simpa using hlo
          by_cases h2 : co < 200
          · have e4' := (HR5.out.2 hlo).1 h2
            subst e4'
            have w2 : decide (co < 200) = true := by simpa using h2
            clear HR5 hlo h2
            go_wp2_with fail
            go_ret
            exact ⟨rfl, HQ9.out.lo⟩
          · have e4' := (HR5.out.2 hlo).2 (by omega)
            subst e4'
            have w2 : decide (co < 200) = false := by simpa using h2
            have w3 : decide (200 ≤ co) = true := by simp; omega
            clear HR5 hlo h2
            go_wp2_with fail
            go_ret
            exact ⟨rfl, HQ9.out.lo⟩

  · have hr : (er != 0) = true := by simpa using h0
    clear h0
    go_wp2_with fail
    clear c0 c1 c2 c3 r0 r1 r2
    refine (HA.out _).mono ?_
    rintro e V3 ⟨rfl, hb⟩
    have HQ2 := hide (HQ1.out.below hb)
    clear hb
    go_wp2_with fail
    go_ret
    exact ⟨rfl, HQ2.out.lo⟩

end Go.Proofs.Vfy
