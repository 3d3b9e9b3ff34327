/-
  EvalMeans' walk.
-/
import Derived.Test.YtimdcmponhcngaaGreatZMn
import Derived.Deep.RegionHeld3
namespace Go.Proofs.YtimdcmponhcngaaGreat
open Go.RowKit Go.IntWalk Lx Pz
set_option linter.unusedVariables false

/-- What Parse answers, of every text: a tree in memory; without names, a choice. -/
theorem parse_one (s : ByteArray) (w : World) : Calls Tryz.prog 19 #[.string s] w fun e W' =>
    ∃ NM BS NS root na nl nc ba bl bc da dl dc er, e = .returned (.tuple #[.agg (tr4 (.slice na nl nc) (.slice ba bl bc) (.slice da dl dc) (.int .i64 root)), .int .i64 er]) ∧
      (er = 0 → nl = 0 → ∃ A ea, ak (bs s) = some A ∧ G [] 0 A ea ∧ NM = [] ∧ BS = bdL [] 0 ∧ NS = nodesOf [] ea ∧ root = rootOf [] ea ∧ chkP [] [] (ea.flat 0) (rootOf [] ea) = true ∧ Gd 0 ea ∧ s.size ≤ 1024) ∧
      nl ≤ 9223372036854775807 ∧ (∀ s ∈ NM, s.length ≤ 9223372036854775807) ∧ Tx W' na nl nc NM ∧ Iz W' ba bl bc BS ∧ Nz W' da dl dc NS ∧ Below w.heap.size w W' := by
  refine (parse_full2 s w).mono ?_
  rintro e W1 (⟨h1, h2⟩ | ⟨A, NM, es, ex, na, nc, ba, bc, da, dc, ha, hg, hok, hl, hnb, hz, hs, rfl, hX, hI, hN, hb⟩)
  · exact ⟨[], [], [], 0, none, 0, 0, none, 0, 0, none, 0, 0, 10, h1, fun h => absurd h (by decide), by omega, by simp, ⟨rfl, Nat.le_refl _, Nat.zero_le _, .inl rfl⟩, ⟨rfl, Nat.le_refl _, Nat.zero_le _, .inl rfl⟩, ⟨rfl, Nat.le_refl _, Nat.zero_le _, .inl rfl⟩, h2⟩
  · refine ⟨NM, _, _, _, na, _, nc, ba, _, bc, da, _, dc, 0, rfl, fun _ h0 => ?_, by have := hX.le; have := hX.max; unfold maxLen at *; omega, nm_short hnb, hX, hI, hN, hb⟩
    obtain ⟨rfl, rfl, h5⟩ := gp_one hg hl h0
    have hc := dec_gp hok hg rfl (by omega)
    obtain ⟨-, h6, -⟩ := gp_gd hg hok rfl (by intro j e h; simp at h) rfl
    exact ⟨A, ex, ha, h5, rfl, rfl, rfl, rfl, hc, h6, hs⟩

/-- A text that is too long is no program. -/
theorem run_long (f d : Int) (v : Wd) {s : ByteArray} (hl : 1024 < s.size) {W : World} {pa : Option Addr} {pl pc : Nat} (hP : Knd.Ints W pa pl pc v.ps) :
    Calls Tryz.prog 24 #[.agg (kdA f d), .string s, .agg (wdA v pa pl pc)] W fun e W' => e = .returned (.tuple #[.int .i64 0, .int .i64 10]) ∧ Below W.heap.size W W' := by
  refine (run_core f d v (s := s) True (fun a b c => False) (fun w => ?_) hP).mono ?_
  · refine (parse_full2 s w).mono ?_
    rintro e W1 (⟨h1, h2⟩ | ⟨A, NM, es, ex, na, nc, ba, bc, da, dc, ha, hg, hok, hl', hnb, hz, hs, -⟩)
    · exact .inl ⟨trivial, h1, h2⟩
    · omega
  · rintro e W1 ⟨⟨-, h⟩ | ⟨a, b, c, h, -⟩, hb⟩
    · exact ⟨h, hb⟩
    · exact h.elim
/-- What run answers of a text that is this program, or too long. -/
theorem run_some (f d : Int) (v : Wd) {s : ByteArray} {A : List Tk} {NM : List Txt} {es : List E} {ex : E} (ha : ak (bs s) = some A) (hg : GP [] [] A (NM, es, ex)) : ∃ z g,
    (g ≠ 0 → z = 0) ∧ (g = 0 → evE f d v NM (bdL es 0) (nodesOf es ex) (rootOf es ex) = 0 ∧ evV f d v NM (bdL es 0) (nodesOf es ex) (rootOf es ex) = z) ∧
    ∀ {W : World} {pa : Option Addr} {pl pc : Nat} (hP : Knd.Ints W pa pl pc v.ps), Calls Tryz.prog 24 #[.agg (kdA f d), .string s, .agg (wdA v pa pl pc)] W fun e W' => e = .returned (.tuple #[.int .i64 z, .int .i64 g]) ∧ Below W.heap.size W W' := by
  by_cases hl : s.size ≤ 1024
  · refine ⟨_, _, fun h => ?_, fun h => ⟨h, rfl⟩, fun hP => run_dec f d v ha hl hg hP⟩
    unfold evV; rw [if_neg h]
  · exact ⟨0, 10, fun _ => rfl, fun h => absurd h (by decide), fun hP => run_long f d v (by omega) hP⟩

/-- The law's boxes. -/
structure Mq (W V : World) (t u : Nat) (kd wd tr ur : Array Value) : Prop where
  k : HasC V W.heap.size 23 kd
  w : HasC V (W.heap.size + 1) 30 wd
  t : HasC V t 28 tr
  u : HasC V u 28 ur
  lo : Below W.heap.size W V
theorem Mq.below {W V V' : World} {t u : Nat} {kd wd tr ur : Array Value} (h : Mq W V t u kd wd tr ur) (hb : Below V.heap.size V V') : Mq W V' t u kd wd tr ur :=
  ⟨h.k.below hb, h.w.below hb, h.t.below hb, h.u.below hb, bel h.lo hb⟩

set_option maxRecDepth 100000 in
set_option maxHeartbeats 16000000 in
theorem means_walk (f d : Int) (sa sb : ByteArray) (v : Wd) (pa : Option Addr) (pl pc : Nat) (wh : Int) (W : World) (hw : 0 ≤ wh ∧ wh ≤ 255) (hP : Knd.Ints W pa pl pc v.ps) :
    Calls Tryz.prog 5 #[.agg (kdA f d), .string sa, .string sb, .agg (wdA v pa pl pc), .int .u8 wh] W fun e w' => e = .returned (.bool true) ∧ Below W.heap.size W w' := by
  have HA := hide fun V => vawake_any V
  have HPa := hide fun V => parse_one sa V
  have HPb := hide fun V => parse_one sb V
  have hb1 := bel1 W (.cells (kdA f d) 23)
  have HB0 := hide (bel hb1 (bel1 (W.alloc (.cells (kdA f d) 23)) (.cells (wdA v pa pl pc) 30)))
  have HK0 := hide ((HasC.new W 23 (kdA f d)).alloc (.cells (wdA v pa pl pc) 30))
  have HW0 : Hid (HasC ((W.alloc (.cells (kdA f d) 23)).alloc (.cells (wdA v pa pl pc) 30)) (W.heap.size + 1) 30 (wdA v pa pl pc)) := by
    have := HasC.new (W.alloc (.cells (kdA f d) 23)) 30 (wdA v pa pl pc)
    simp only [World.size_alloc] at this
    exact hide this
  have HPI := hide hP
  clear hb1 hP
  go_enter Tryz.func5, Tryz.ntmps5
  go_wp2_with fail
  refine (HPa.out _).mono ?_
  rintro e V1 ⟨NM, BS, NS, root, na, nl, nc, ba, bl, bc, da, dl, dc, er, rfl, hgd, hnl, hsh, hX, hI, hN, hb⟩
  have HG1 := hide hgd
  have HSh1 := hide hsh
  have hb2 := bel1 V1 (.cells (tr4 (.slice na nl nc) (.slice ba bl bc) (.slice da dl dc) (.int .i64 root)) 28)
  have HK1 := hide ((HK0.out.below hb).below hb2)
  have HW1 := hide ((HW0.out.below hb).below hb2)
  have HB1 := hide (bel (bel HB0.out hb) hb2)
  have HT1 := hide (HasC.new V1 28 (tr4 (.slice na nl nc) (.slice ba bl bc) (.slice da dl dc) (.int .i64 root)))
  have HX1 := hide (hX.later hb2)
  have HI1 := hide (hI.later hb2)
  have HN1 := hide (hN.later hb2)
  clear hgd hsh hb hb2 hX hI hN HPa HK0 HW0 HB0
  go_wp2_with fail
  refine (HPb.out _).mono ?_
  rintro e V2 ⟨NM', BS', NS', root', na', nl', nc', ba', bl', bc', da', dl', dc', er', rfl, hgd, hnl', hsh, hX, hI, hN, hb⟩
  have HG2 := hide hgd
  have HSh2 := hide hsh
  have hb2 := bel1 V2 (.cells (tr4 (.slice na' nl' nc') (.slice ba' bl' bc') (.slice da' dl' dc') (.int .i64 root')) 28)
  have HQ0 : Hid (Mq W (V2.alloc (.cells (tr4 (.slice na' nl' nc') (.slice ba' bl' bc') (.slice da' dl' dc') (.int .i64 root')) 28)) V1.heap.size V2.heap.size (kdA f d) (wdA v pa pl pc) (tr4 (.slice na nl nc) (.slice ba bl bc) (.slice da dl dc) (.int .i64 root)) (tr4 (.slice na' nl' nc') (.slice ba' bl' bc') (.slice da' dl' dc') (.int .i64 root'))) :=
    ⟨(HK1.out.below hb).below hb2, (HW1.out.below hb).below hb2, (HT1.out.below hb).below hb2, HasC.new _ _ _, bel (bel HB1.out hb) hb2⟩
  have HX2 := hide ((HX1.out.later hb).later hb2)
  have HI2 := hide ((HI1.out.later hb).later hb2)
  have HN2 := hide ((HN1.out.later hb).later hb2)
  have HX3 := hide (hX.later hb2)
  have HI3 := hide (hI.later hb2)
  have HN3 := hide (hN.later hb2)
  clear hgd hsh hb hb2 hX hI hN HPb HK1 HW1 HB1 HT1 HX1 HI1 HN1
  go_wp2_with fail
  refine (HA.out _).mono ?_
  rintro e V3 ⟨rfl, hb⟩
  have HQ3 := hide (HQ0.out.below hb)
  have HX5 := hide (HX2.out.later hb)
  have HI5 := hide (HI2.out.later hb)
  have HN5 := hide (HN2.out.later hb)
  have HX6 := hide (HX3.out.later hb)
  have HI6 := hide (HI3.out.later hb)
  have HN6 := hide (HN3.out.later hb)
  clear hb HQ0 HX2 HI2 HN2 HX3 HI3 HN3
  generalize V1.heap.size = bt at *
  generalize V2.heap.size = bu at *
  obtain ⟨t0, t1, t2, t3⟩ := four_of HQ3.out.t
  obtain ⟨u0, u1, u2, u3⟩ := four_of HQ3.out.u
  by_cases h0 : er = 0
  case neg =>
    have hr : (er != 0) = true := by simpa using h0
    go_wp2_with fail
    refine (HA.out _).mono ?_
    rintro e V7 ⟨rfl, hb7⟩
    go_wp2_with fail
    go_ret
    exact ⟨rfl, bel HQ3.out.lo hb7⟩
  have hr : (er != 0) = false := by simpa using h0
  by_cases h1 : er' = 0
  case neg =>
    have hr1 : (er' != 0) = true := by simpa using h1
    go_wp2_with fail
    refine (HA.out _).mono ?_
    rintro e V7 ⟨rfl, hb7⟩
    go_wp2_with fail
    go_ret
    exact ⟨rfl, bel HQ3.out.lo hb7⟩
  have hr1 : (er' != 0) = false := by simpa using h1
  by_cases h2 : nl = 0
  case neg =>
    have hr2 : decide ((0 : Int) < (nl : Int)) = true := by simp; omega
    have hr2' : (0 : Int) < (nl : Int) := by omega
    go_wp2_with fail
    refine (HA.out _).mono ?_
    rintro e V7 ⟨rfl, hb7⟩
    go_wp2_with fail
    go_ret
    exact ⟨rfl, bel HQ3.out.lo hb7⟩
  by_cases h3 : nl' = 0
  case neg =>
    have hr3' : (0 : Int) < (nl' : Int) := by omega
    go_wp2_with fail
    refine (HA.out _).mono ?_
    rintro e V7 ⟨rfl, hb7⟩
    go_wp2_with fail
    go_ret
    exact ⟨rfl, bel HQ3.out.lo hb7⟩
  obtain ⟨A, ea, ha, hga, rfl, rfl, rfl, rfl, hca, hgda, hsa⟩ := HG1.out h0 h2
  obtain ⟨B, eb, hb, hgb, rfl, rfl, rfl, rfl, hcb, hgdb, hsb⟩ := HG2.out h1 h3
  clear HG1 HG2 HA
  subst h0 h1 h2 h3
  have HEa := hide (veval_any f d v (root := rootOf [] ea) HX5.out HI5.out HN5.out HSh1.out (HPI.out.later HQ3.out.lo))
  obtain ⟨k0, k1, -, -⟩ := two_of HQ3.out.k
  obtain ⟨w0, w1, w2, w3⟩ := four_of HQ3.out.w
  have HGa := hide hga
  have HGb := hide hgb
  have HCa := hide hca
  have HCb := hide hcb
  have HGd := hide hgdb
  have HAa := hide ha
  have HAb := hide hb
  have hbla : (bs sa).length = sa.size := bs_len sa
  have hblb : (bs sb).length = sb.size := bs_len sb
  have HLa := hide hbla
  have HLb := hide hblb
  have HSa := hide hsa
  have HSb := hide hsb
  have HX4 := hide fun (V : World) (h : Below V3.heap.size V3 V) => veval_any f d v (root := rootOf [] eb) (HX6.out.later h) (HI6.out.later h) (HN6.out.later h) HSh2.out (HPI.out.later (bel HQ3.out.lo h))
  obtain ⟨xa, hxa⟩ : ∃ xa, evVx f d v ea = xa := ⟨_, rfl⟩
  obtain ⟨xb, hxb⟩ : ∃ xb, evVx f d v eb = xb := ⟨_, rfl⟩
  obtain ⟨ga, hga'⟩ : ∃ ga, evEx f d v ea = ga := ⟨_, rfl⟩
  obtain ⟨gb, hgb'⟩ : ∃ gb, evEx f d v eb = gb := ⟨_, rfl⟩
  rw [show evV f d v [] (bdL [] 0) (nodesOf [] ea) (rootOf [] ea) = xa from hxa, show evE f d v [] (bdL [] 0) (nodesOf [] ea) (rootOf [] ea) = ga from hga'] at HEa
  rw [show evV f d v [] (bdL [] 0) (nodesOf [] eb) (rootOf [] eb) = xb from hxb, show evE f d v [] (bdL [] 0) (nodesOf [] eb) (rootOf [] eb) = gb from hgb'] at HX4
  have HXa := hide hxa
  have HXb := hide hxb
  have HEa' := hide hga'
  have HEb' := hide hgb'
  clear hxa hxb hga' hgb' ha hb hga hgb hca hcb hgda hgdb hbla hblb hsa hsb HX5 HI5 HN5 HX6 HI6 HN6 HSh1 HSh2
  go_wp2_with fail
  refine HEa.out.mono ?_
  rintro e V4 ⟨rfl, hb4⟩
  have HQ4 := hide (HQ3.out.below hb4)
  have HE4 := hide (HX4.out V4 hb4)
  clear hb4 HEa HX4 k0 k1 w0 w1 w2 w3 t0 t1 t2 t3 u0 u1 u2 u3
  obtain ⟨k0, k1, -, -⟩ := two_of HQ4.out.k
  obtain ⟨w0, w1, w2, w3⟩ := four_of HQ4.out.w
  obtain ⟨u0, u1, u2, u3⟩ := four_of HQ4.out.u
  go_wp2_with fail
  refine HE4.out.mono ?_
  rintro e V5 ⟨rfl, hb5⟩
  have HQ5 := hide (HQ4.out.below hb5)
  clear hb5 HE4 k0 k1 w0 w1 w2 w3 u0 u1 u2 u3 HQ3 HQ4
  obtain ⟨h160, h161⟩ := hw
  go_wp2_with fail
  obtain ⟨V6, hV6⟩ : ∃ V6, (V5.alloc (.cells mkC 9)).alloc (.cells opC 3) = V6 := ⟨_, rfl⟩
  have hb6 := bel (bel1 V5 (.cells mkC 9)) (bel1 (V5.alloc (.cells mkC 9)) (.cells opC 3))
  have HMk := (HasC.new V5 9 mkC).alloc (.cells opC 3)
  have HOp := HasC.new (V5.alloc (.cells mkC 9)) 3 opC
  rw [World.size_alloc] at HOp
  rw [hV6] at hb6 HMk HOp ⊢
  have HQ6 := hide (HQ5.out.below hb6)
  obtain ⟨i, hi⟩ : ∃ i : Nat, wh % 16 = (i : Int) := ⟨(wh % 16).toNat, by omega⟩
  have hi16 : i < 16 := by omega
  rw [hi]
  have HMi := HMk.cell i (mkC_at hi16)
  have HOi := hide (HOp.cell i (opC_at hi16))
  have HOl := hide HOp.lt
  have HRow := hide (row_mark hi16)
  have hrl := HRow.out.2.2.2.2.1
  have hra := HLa.out
  have hrb := HLb.out
  have hsa := HSa.out
  have hsb := HSb.out
  obtain ⟨C1, hC1, r1⟩ := cat (A := ⟨#[40]⟩) (B := sa) (a := [40]) (b := bs sa) rfl (sB_bs sa).symm (by rw [hra]; simp only [List.length_cons, List.length_nil]; omega)
  obtain ⟨C2, hC2, r2⟩ := cat (A := C1) (B := ⟨#[10, 41]⟩) (b := [10, 41]) hC1 rfl (by simp only [List.length_append, hra, List.length_cons, List.length_nil]; omega)
  obtain ⟨C3, hC3, r3⟩ := cat (A := C2) (B := sB (row i).2.1) (b := (row i).2.1) hC2 rfl (by simp only [List.length_append, hra, List.length_cons, List.length_nil]; omega)
  obtain ⟨C4, hC4, r4⟩ := cat (A := C3) (B := ⟨#[40]⟩) (b := [40]) hC3 rfl (by simp only [List.length_append, hra, List.length_cons, List.length_nil]; omega)
  obtain ⟨C5, hC5, r5⟩ := cat (A := C4) (B := sb) (b := bs sb) hC4 (sB_bs sb).symm (by simp only [List.length_append, hra, hrb, List.length_cons, List.length_nil]; omega)
  obtain ⟨C6, hC6, r6⟩ := cat (A := C5) (B := ⟨#[10, 41]⟩) (b := [10, 41]) hC5 rfl (by simp only [List.length_append, hra, hrb, List.length_cons, List.length_nil]; omega)
  obtain ⟨D1, hD1, s1⟩ := cat (A := ⟨#[108, 101, 116, 32, 122, 61]⟩) (B := sa) (a := [108, 101, 116, 32, 122, 61]) (b := bs sa) rfl (sB_bs sa).symm (by rw [hra]; simp only [List.length_cons, List.length_nil]; omega)
  obtain ⟨D2, hD2, s2⟩ := cat (A := D1) (B := ⟨#[10, 59, 108, 101, 116, 32, 122, 122, 61]⟩) (b := [10, 59, 108, 101, 116, 32, 122, 122, 61]) hD1 rfl (by simp only [List.length_append, hra, List.length_cons, List.length_nil]; omega)
  obtain ⟨D3, hD3, s3⟩ := cat (A := D2) (B := sb) (b := bs sb) hD2 (sB_bs sb).symm (by simp only [List.length_append, hra, hrb, List.length_cons, List.length_nil]; omega)
  obtain ⟨D4, hD4, s4⟩ := cat (A := D3) (B := ⟨#[10, 59, 122, 63, 122, 122, 58, 122]⟩) (b := [10, 59, 122, 63, 122, 122, 58, 122]) hD3 rfl (by simp only [List.length_append, hra, hrb, List.length_cons, List.length_nil]; omega)
  have k6 : ak (bs C6) = some (.lp :: (A ++ .rp :: .op (row i).1 (row i).2.2 :: .lp :: (B ++ [.rp]))) := by
    rw [hC6, bs_sB, show [40] ++ bs sa ++ [10, 41] ++ (row i).2.1 ++ [40] ++ bs sb ++ [10, 41] = 40 :: (bs sa ++ 10 :: 41 :: ((row i).2.1 ++ 40 :: (bs sb ++ 10 :: [41]))) by simp]
    exact tks_join hi16 HAa.out HAb.out
  have k4 : ak (bs D4) = some (.word wLet :: .word wZ :: .eq :: (A ++ .semi :: (.word wLet :: .word wZZ :: .eq :: (B ++ .semi :: [.word wZ, .ques, .word wZZ, .colon, .word wZ])))) := by
    rw [hD4, bs_sB, show [108, 101, 116, 32, 122, 61] ++ bs sa ++ [10, 59, 108, 101, 116, 32, 122, 122, 61] ++ bs sb ++ [10, 59, 122, 63, 122, 122, 58, 122] = [108, 101, 116, 32, 122, 61] ++ bs sa ++ 10 :: 59 :: ([108, 101, 116, 32, 122, 122, 61] ++ bs sb ++ 10 :: 59 :: [122, 63, 122, 122, 58, 122]) by simp]
    exact ak_let HAa.out HGa.out (ak_let2 HAb.out HGb.out ak_end)
  obtain ⟨z, g, hz1, hz2, HR1⟩ := run_some f d v k6 (gp_join hi16 HGa.out HGb.out)
  obtain ⟨q, h, hq1, hq2, HR2⟩ := run_some f d v k4 (gp_sel HGa.out HGb.out)
  have hpr : prZ (row i).2.2 = 2 := by
    have : ∀ j : Fin 16, prZ (row j.val).2.2 = 2 := by decide +kernel
    exact this ⟨i, hi16⟩
  have HM1 : Hid (g = 0 → ga = 0 ∧ gb = 0 ∧ Spn.valZ (row i).2.2 0 0 [xa, xb] = (z, 0)) := hide fun h0 => by
    obtain ⟨e1, e2⟩ := hz2 h0
    obtain ⟨a1, a2, a3⟩ := means_bin HCa.out HCb.out HGd.out hpr e1
    rw [HXa.out, HXb.out, show evVx f d v (.bin (row i).2.2 ea eb) = z from e2] at a3
    exact ⟨HEa'.out ▸ a1, HEb'.out ▸ a2, a3⟩
  have HM2 : Hid (h = 0 → ga = 0 ∧ gb = 0 ∧ q = if xa = 0 then xa else xb) := hide fun h0 => by
    obtain ⟨e1, e2⟩ := hq2 h0
    obtain ⟨a1, a2, a3⟩ := means_sel HCa.out HCb.out HGd.out e1
    rw [HXa.out, HXb.out, e2] at a3
    exact ⟨HEa'.out ▸ a1, HEb'.out ▸ a2, a3⟩
  have HZ1 := hide hz1
  have HQ1 := hide hq1
  have HRn1 := hide fun (V : World) (h : Below W.heap.size W V) => HR1 (HPI.out.later h)
  have HRn2 := hide fun (V : World) (h : Below W.heap.size W V) => HR2 (HPI.out.later h)
  have HVl := hide fun (V : World) (b : Nat) (h : HasC V b 3 #[.int .i64 xa, .int .i64 xb]) => Spn.value_any (row i).2.2 0 0 (some ⟨b, 0, none⟩) 2 2 [xa, xb] V ⟨rfl, Nat.le_refl _, by unfold maxLen; omega, (fun h => by cases h), .inr ⟨b, 0, rfl, fun j hj => by
    rcases (show j = 0 ∨ j = 1 by omega) with rfl | rfl
    · exact h.cell 0 rfl
    · exact h.cell 1 rfl⟩⟩
  clear hz1 hz2 hq1 hq2 HR1 HR2 k6 k4 hC1 hC2 hC3 hC4 hC5 hC6 hD1 hD2 hD3 hD4 hpr hra hrb hsa hsb hrl HRow HLa HLb HSa HSb HAa HAb HGa HGb HCa HCb HGd HXa HXb HEa' HEb' HPI hi hV6 hb6 HMk HOp HQ5
  generalize sB (row i).2.1 = mk at *
  generalize (row i).2.2 = op at *
  generalize V5.heap.size = bm at *
  have j0 : (0 : Int) ≤ i := by omega
  have j1 : (i : Int) < 16 := by omega
  obtain ⟨k0, k1, -, -⟩ := two_of HQ6.out.k
  obtain ⟨w0, w1, w2, w3⟩ := four_of HQ6.out.w
  have HQd := hide (HQ6.out.below (below_drew _))
  have HOd := hide ((below_drew V6).cell (p := ⟨bm + 1, i, none⟩) HOl.out |>.trans HOi.out)
  go_region_held3 (fun w' => w'.cell? ⟨W.heap.size, 0, none⟩ = some (.int .i64 f) ∧ w'.cell? ⟨W.heap.size, 1, none⟩ = some (.int .i64 d) ∧ w'.cell? ⟨W.heap.size + 1, 0, none⟩ = some (.int .i64 v.x) ∧ w'.cell? ⟨W.heap.size + 1, 1, none⟩ = some (.int .i64 v.y) ∧ w'.cell? ⟨W.heap.size + 1, 2, none⟩ = some (.int .i64 v.c) ∧ w'.cell? ⟨W.heap.size + 1, 3, none⟩ = some (.slice pa pl pc) ∧ w'.cell? ⟨bm, i, none⟩ = some (.string mk))
    (first | exact ⟨k0, k1, w0, w1, w2, w3, HMi⟩ | exact ⟨HQ7.out.k.cell 0 rfl, HQ7.out.k.cell 1 rfl, HQ7.out.w.cell 0 rfl, HQ7.out.w.cell 1 rfl, HQ7.out.w.cell 2 rfl, HQ7.out.w.cell 3 rfl, cn3⟩ | go_keep)
    ((first
      | (go_at_call 24; refine (HRn1.out _ HQd.out.lo).mono ?_; rintro e w7 ⟨rfl, hb7⟩; have HQ7 := hide (HQd.out.below hb7); have HO7 := hide ((hb7.cell (p := ⟨bm + 1, i, none⟩) HOl.out).trans HOd.out); have hz7 := hb7.size; have cn3 := (hb7.cell (p := ⟨bm, i, none⟩) (Nat.lt_trans (Nat.lt_succ_self bm) HOl.out)).trans HMi; clear hb7)))
  all_goals
    clear k0 k1 w0 w1 w2 w3 HMi HQ6 HQd HOi HOd HRn1 r1 r2 r3 r4 r5 r6 cn3
    obtain ⟨k0, k1, -, -⟩ := two_of HQ7.out.k
    obtain ⟨w0, w1, w2, w3⟩ := four_of HQ7.out.w
    have hz8 : bm + 1 < w7.heap.size := Nat.lt_of_lt_of_le HOl.out hz7
    go_wp2_with fail
    refine (HRn2.out _ HQ7.out.lo).mono ?_
    rintro e V8 ⟨rfl, hb8⟩
    have HQ8 := hide (HQ7.out.below hb8)
    have o8 := (hb8.cell (p := ⟨bm + 1, i, none⟩) hz8).trans HO7.out
    have hz9 : bm + 1 < V8.heap.size := Nat.lt_of_lt_of_le hz8 hb8.size
    clear hb8 HQ7 HO7 HRn2 k0 k1 w0 w1 w2 w3 hz7 hz8 s1 s2 s3 s4 HOl
    by_cases hg : g = 0
    · obtain ⟨rfl, rfl, hv⟩ := HM1.out hg
      subst hg
      have HV := hide (HVl.out (V8.alloc (.cells #[.int .i64 xa, .int .i64 xb] 3)) V8.heap.size (HasC.new _ _ _))
      rw [hv] at HV
      have HB9 := hide (bel HQ8.out.lo (bel1 V8 (.cells #[.int .i64 xa, .int .i64 xb] 3)))
      clear hv HVl HM1 HZ1
      by_cases hh : h = 0
      · obtain ⟨-, -, hq⟩ := HM2.out hh
        subst hh
        clear HM2 HQ1
        by_cases hx : xa = 0
        · rw [if_pos hx] at hq
          subst hx hq
          go_wp2_with fail
          refine HV.out.mono ?_
          rintro e V9 ⟨rfl, hb9⟩
          have HB10 := hide (bel HB9.out hb9)
          clear hb9
          go_wp2_with fail
          go_ret
          exact ⟨rfl, HB10.out⟩
        · rw [if_neg hx] at hq
          subst hq
          have hx1 : (xa == 0) = false := by simpa using hx
          clear hx
          go_wp2_with fail
          refine HV.out.mono ?_
          rintro e V9 ⟨rfl, hb9⟩
          have HB10 := hide (bel HB9.out hb9)
          clear hb9
          go_wp2_with fail
          go_ret
          exact ⟨rfl, HB10.out⟩
      · have hh1 : (h != 0) = true := by simpa using hh
        clear HM2 HQ1 hh
        by_cases hx : xa = 0
        · subst hx
          go_wp2_with fail
          refine HV.out.mono ?_
          rintro e V9 ⟨rfl, hb9⟩
          have HB10 := hide (bel HB9.out hb9)
          clear hb9
          go_wp2_with fail
          go_ret
          exact ⟨rfl, HB10.out⟩
        · have hx1 : (xa == 0) = false := by simpa using hx
          clear hx
          go_wp2_with fail
          refine HV.out.mono ?_
          rintro e V9 ⟨rfl, hb9⟩
          have HB10 := hide (bel HB9.out hb9)
          clear hb9
          go_wp2_with fail
          go_ret
          exact ⟨rfl, HB10.out⟩
    · have hg1 : (g != 0) = true := by simpa using hg
      by_cases hh : h = 0
      · obtain ⟨rfl, rfl, hq⟩ := HM2.out hh
        subst hh
        have HV := hide (HVl.out (V8.alloc (.cells #[.int .i64 xa, .int .i64 xb] 3)) V8.heap.size (HasC.new _ _ _))
        have HB9 := hide (bel HQ8.out.lo (bel1 V8 (.cells #[.int .i64 xa, .int .i64 xb] 3)))
        generalize Spn.valZ op 0 0 [xa, xb] = vz at *
        clear HVl HM1 HM2 HZ1 HQ1 hg
        by_cases hx : xa = 0
        · rw [if_pos hx] at hq
          subst hx hq
          go_wp2_with fail
          refine HV.out.mono ?_
          rintro e V9 ⟨rfl, hb9⟩
          have HB10 := hide (bel HB9.out hb9)
          clear hb9
          go_wp2_with fail
          go_ret
          exact ⟨rfl, HB10.out⟩
        · rw [if_neg hx] at hq
          subst hq
          have hx1 : (xa == 0) = false := by simpa using hx
          clear hx
          go_wp2_with fail
          refine HV.out.mono ?_
          rintro e V9 ⟨rfl, hb9⟩
          have HB10 := hide (bel HB9.out hb9)
          clear hb9
          go_wp2_with fail
          go_ret
          exact ⟨rfl, HB10.out⟩
      · have hh1 : (h != 0) = true := by simpa using hh
        obtain rfl := HZ1.out hg
        obtain rfl := HQ1.out hh
        clear hg hh HZ1 HQ1 HM1 HM2 HVl
        go_wp2_with fail
        go_ret
        exact ⟨rfl, HQ8.out.lo⟩

end Go.Proofs.YtimdcmponhcngaaGreat
