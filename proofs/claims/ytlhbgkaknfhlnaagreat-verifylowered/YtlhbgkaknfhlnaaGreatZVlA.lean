/-
  The code of a program that the check takes is taken, plainly.
-/
import Derived.Test.YtlhbgkaknfhlnaaGreatZLoA
import Derived.Test.YtlhbgkaknfhlnaaGreatZYA
import Derived.Test.YtlhbgkaknfhlnaaGreatZL2
import Derived.Test.YtlhbgkaknfhlnaaGreatZHdA
import Derived.Lib.QuietBelow
import Derived.BigQuiet
import Derived.Deep.QuietTactic
namespace Go.Proofs.YtlhbgkaknfhlnaaGreat
open Go.RowKit Lx Pz
set_option linter.unusedVariables false

/- the registers' spans are the nodes' -/
structure Lg (f d : Int) (S : Sps) (R : List Int) (I : List Cde.In) (T : Sps) : Prop where
  run : Vfy.sgF f d I = (0, T)
  len : T.length = I.length
  val : ∀ j, j < R.length → S.getD j (0, 0) = T.getD (R.getD j 0).toNat (0, 0)
  ah : I.any (Vfy.ahI f d) = false
theorem lo_sp {f d : Int} {BS R : List Int} {S T : Sps} {n : Nd} (hl : R.length = S.length) (hn : Wn BS S.length n) (h4 : n.op ≠ 4)
    (hv : ∀ j, j < R.length → S.getD j (0, 0) = T.getD (R.getD j 0).toNat (0, 0)) : Vfy.sgI f d T (loI f d R n) = spN f d BS S n := by
  have hv2 : ∀ p ∈ prts n, T.getD (lrg R p).toNat (0, 0) = S.getD p.toNat (0, 0) := fun p hp => (hv _ (by rw [hl]; exact (hn.prt p hp).2)).symm
  unfold Vfy.sgI spN
  rw [loI_op, if_neg h4]
  by_cases h1 : n.op = 1
  · rw [if_pos h1, if_pos h1]
    have e : arZ n.op = 0 := by rw [h1]; rfl
    have ek : (loI f d R n).k = n.k := by
      unfold loI loK
      rw [e, if_neg (by decide), if_neg (by decide), if_neg (by decide), if_neg (by omega)]
    rw [ek]
  rw [if_neg h1, if_neg h1]
  by_cases h2 : n.op = 2
  · rw [if_pos h2, if_pos h2]
    have e : arZ n.op = 0 := by rw [h2]; rfl
    have ek : (loI f d R n).k = n.k := by
      unfold loI loK
      rw [e, if_neg (by decide), if_neg (by decide), if_neg (by decide), if_neg (by omega)]
    rw [ek]
  rw [if_neg h2, if_neg h2]
  by_cases h3 : n.op = 3
  · rw [if_pos h3, if_pos h3]
  rw [if_neg h3, if_neg h3]
  have hk : (loI f d R n).k = 0 ∧ (loI f d R n).s = 0 ∧ Vfy.asS T (loI f d R n) = (prts n).map fun p => S.getD p.toNat (0, 0) := by
    unfold Vfy.asS Cde.agL Cde.arN Cde.abc
    rw [loI_op, ar_same]
    unfold loI
    rcases ar_four hn h4 with ⟨e, h⟩ | ⟨h5, e, hq⟩ | ⟨h5, e, hq⟩ | ⟨h5, e, hq⟩
    · omega
    · rw [hq] at hv2 ⊢
      rw [e, if_pos rfl]
      refine ⟨rfl, rfl, ?_⟩
      show [T.getD (lrg R n.a).toNat (0, 0)] = [S.getD n.a.toNat (0, 0)]
      rw [hv2 n.a (by simp)]
    · rw [hq] at hv2 ⊢
      rw [e, if_neg (by decide), if_pos rfl]
      refine ⟨rfl, rfl, ?_⟩
      show [T.getD (lrg R n.a).toNat (0, 0), T.getD (lrg R n.b).toNat (0, 0)] = [S.getD n.a.toNat (0, 0), S.getD n.b.toNat (0, 0)]
      rw [hv2 n.a (by simp), hv2 n.b (by simp)]
    · rw [hq] at hv2 ⊢
      rw [e, if_neg (by decide), if_neg (by decide), if_pos rfl]
      refine ⟨rfl, rfl, ?_⟩
      show [T.getD (lrg R n.a).toNat (0, 0), T.getD (lrg R n.b).toNat (0, 0), T.getD (lrg R n.c).toNat (0, 0)] = [S.getD n.a.toNat (0, 0), S.getD n.b.toNat (0, 0), S.getD n.c.toNat (0, 0)]
      rw [hv2 n.a (by simp), hv2 n.b (by simp), hv2 n.c (by simp)]
  rw [hk.1, hk.2.1, hk.2.2]
theorem lo_ah {f d : Int} {R : List Int} {n : Nd} (ha : n.op = 3 → ∃ q, Knd.numZ f d (plOf n) = some q) : Vfy.ahI f d (loI f d R n) = false := by
  unfold Vfy.ahI
  rw [loI_op]
  by_cases h3 : n.op = 3
  · obtain ⟨q, hq⟩ := ha h3
    have := num_44 hq
    have e : arZ n.op = 0 := by rw [h3]; rfl
    have ek : (loI f d R n).k = (q : Int) := by
      unfold loI loK
      rw [e, if_neg (by decide), if_neg (by decide), if_neg (by decide), if_pos h3, hq]
      rfl
    rw [ek]
    simp
    omega
  · rw [show (n.op == 3) = false by simpa using h3]; rfl
theorem getS_last (L : Sps) (x : Int × Int) : (L ++ [x]).getD L.length (0, 0) = x := by simp [List.getD_eq_getElem?_getD]
theorem Lg.all {f d : Int} {BS : List Int} : ∀ (B A : List Nd) (s : List Int × List Cde.In) (S T U : Sps), S.length = A.length → Lw A s.1 s.2 → Lg f d S s.1 s.2 T → Wl BS A.length B → (∀ n ∈ B, n.op = 3 → ∃ q, Knd.numZ f d (plOf n) = some q) → spR f d BS B S = (U, 0) → ∃ T', Lg f d U (B.foldl (loS f d BS) s).1 (B.foldl (loS f d BS) s).2 T'
  | [], A, s, S, T, U, hS, hw, hg, _, _, h => by cases h; exact ⟨T, hg⟩
  | n :: B, A, s, S, T, U, hS, hw, hg, hl, ha, h => by
    simp only [spR] at h
    split at h
    · rename_i h1
      have hn := hl.1
      rw [← hS] at hn
      have hRl := hw.len
      have hlw := hw.step (f := f) (d := d) (BS := BS) hl.1 (ha n (by simp))
      have hlg : ∃ T', Lg f d (S ++ [(spN f d BS S n).1]) (loS f d BS s n).1 (loS f d BS s n).2 T' := by
        unfold loS
        by_cases h4 : n.op = 4
        · rw [if_pos h4]
          refine ⟨T, hg.run, hg.len, fun j hj => ?_, hg.ah⟩
          simp only [List.length_append, List.length_cons, List.length_nil] at hj
          by_cases e : j < s.1.length
          · rw [getI_preA (by omega), getI_preA e]; exact hg.val j e
          · obtain rfl : j = s.1.length := by omega
            rw [getI_last, show s.1.length = S.length by omega, getI_last]
            unfold spN
            rw [if_pos h4]
            exact hg.val _ (by have := (hn.use h4).2.2.2; omega)
        · rw [if_neg h4]
          have e1 := lo_sp (f := f) (d := d) (BS := BS) (R := s.1) (T := T) (by omega) hn h4 hg.val
          refine ⟨T ++ [(spN f d BS S n).1], ?_, by simp [hg.len], fun j hj => ?_, ?_⟩
          · rw [Vfy.sgF_snoc, hg.run]
            unfold Vfy.sgS
            simp only [if_true]
            rw [e1, if_pos h1]
          · simp only [List.length_append, List.length_cons, List.length_nil] at hj
            by_cases e : j < s.1.length
            · have hr := hw.reg j (by omega)
              rw [getI_preA (by omega), getI_preA e, getI_preA (by rw [hg.len]; exact hr.2)]
              exact hg.val j e
            · obtain rfl : j = s.1.length := by omega
              rw [getI_last, show s.1.length = S.length by omega, getI_last, Int.toNat_natCast, ← hg.len, getI_last]
          · show (s.2 ++ [loI f d s.1 n]).any (Vfy.ahI f d) = false
            rw [List.any_append, hg.ah, List.any_cons, lo_ah (ha n (by simp))]
            rfl
      obtain ⟨T', hg'⟩ := hlg
      exact Lg.all B (A ++ [n]) (loS f d BS s n) _ T' U (by simp [hS]) hlw hg' (by simpa using hl.2) (fun m hm => ha m (by simp [hm])) h
    · rename_i h1; exact absurd (congrArg Prod.snd h) h1
theorem lg_all {f d : Int} {NM : List Txt} {BS : List Int} {NS : List Nd} {root : Int} (h : ckE f d NM BS NS root = 0) : ∃ T, Lg f d (spR f d BS NS []).1 (loF f d BS NS).1 (loF f d BS NS).2 T := by
  obtain ⟨a1, a2, a3, a4, -⟩ := ck_zero.1 h
  obtain ⟨es, ex, hD⟩ := chk_dec.1 a2
  exact Lg.all NS [] ([], []) [] [] _ rfl lw_nil ⟨rfl, rfl, fun j hj => by simp at hj, rfl⟩ hD.wl (fun n hn h3 => ck_num h hn h3) (Prod.ext rfl a4)
/-- The code is taken: its cost, its answer's span. -/
theorem lo_taken {f d : Int} {NM : List Txt} {BS : List Int} {NS : List Nd} {root : Int} (h : ckE f d NM BS NS root = 0) {I : List Cde.In} {o : Int} (hI : I = (loF f d BS NS).2) (ho : o = (loF f d BS NS).1.getD root.toNat 0) :
    Vfy.vfE f d I o = 0 ∧ Vfy.vfC f d I o = coR NS ∧ 0 ≤ o ∧ o.toNat < Vfy.vfN f d I o ∧ (Vfy.vfS f d I o).getD o.toNat (0, 0) = (spR f d BS NS []).1.getD (NS.length - 1) (0, 0) ∧ 1 ≤ NS.length ∧ NS.length ≤ 1024 := by
  obtain ⟨a1, a2, a3, a4, a5, a6⟩ := ck_zero.1 h
  obtain ⟨T, hT⟩ := lg_all h
  have hw := lw_all h
  have hm := lo_may h
  obtain ⟨r0, r1, r2⟩ := sound_root a2
  obtain ⟨es, ex, hD⟩ := chk_dec.1 a2
  have hr := hD.root
  rw [← hI] at hT hw hm
  rw [← ho] at hm
  have hco := hw.co
  have h0 : Vfy.vfE f d I o = 0 := Vfy.vf_zero.2 ⟨Vfy.my_zero.2 ⟨hm, hT.ah⟩, by rw [hT.run], by omega⟩
  obtain ⟨-, -, ⟨S', h1, h2, h3⟩, -, h5, h6⟩ := Vfy.vf_parts h0
  rw [hT.run] at h1
  cases h1
  obtain ⟨-, -, -, q1, q2, -⟩ := Cde.mc_parts hm
  have e1 : root.toNat = NS.length - 1 := by omega
  refine ⟨h0, by rw [h6, hco], q1, by rw [h5]; omega, ?_, by omega, r2⟩
  rw [h3, ← e1, hT.val root.toNat (by rw [hw.len]; exact r1), ← ho]
theorem none_taken (F D o : Int) : Vfy.vfE F D [] o = 15 := by
  have hm : ¬ Cde.mcB F D [] o = true := fun h => by
    have := (Cde.mc_parts h).2.1
    simp at this
  unfold Vfy.vfE
  rw [show Vfy.myE F D [] o = 15 by unfold Vfy.myE; rw [if_neg hm]]
  rfl

end Go.Proofs.YtlhbgkaknfhlnaaGreat

/-
  VerifyLowered's walk.
-/
namespace Go.Proofs.YtlhbgkaknfhlnaaGreat
open Go.RowKit Go.IntWalk Lx Pz
set_option linter.unusedVariables false

theorem LoP.insV {w : World} {Z : LoV} {e : Ending} {W' : World} (h : LoP w Z e W') : ∃ a c, e = .returned (.tuple #[.agg (Cde.cd Z.f Z.d a Z.I.length c Z.o), .int .i64 Z.er]) ∧ Cde.Ins W' a Z.I.length c Z.I ∧ Below w.heap.size w W' := by
  obtain ⟨a, c, rfl, hO, hb⟩ := h
  obtain ⟨a', c', e', hI, -⟩ := Cde.Ins.of_owns hO
  cases e'
  exact ⟨a, c, rfl, hI, hb⟩
/-- What Check answers, in one form. -/
theorem check_two (f d : Int) {W : World} {na ba da : Option Addr} {nl nc bl bc dl dc : Nat} {root : Int} {NM : List Txt} {BS : List Int} {NS : List Nd} (hX : Tx W na nl nc NM) (hB : Iz W ba bl bc BS) (hN : Nz W da dl dc NS) (hs : ∀ s ∈ NM, s.length ≤ 9223372036854775807) :
    Calls Tryz.prog 12 #[.agg (kdA f d), .agg (tr4 (.slice na nl nc) (.slice ba bl bc) (.slice da dl dc) (.int .i64 root))] W fun e W' =>
      ∃ ga gl gc co mx, e = .returned (.tuple #[.agg #[.slice ga gl gc, .int .i64 co, .int .i64 mx], .int .i64 (ckE f d NM BS NS root)]) ∧ (ckE f d NM BS NS root = 0 → co = coR NS ∧ gl = NS.length ∧ Spn.Spans W' ga gl gc (spR f d BS NS []).1) ∧ Below W.heap.size W W' := by
  refine (ccheck_any f d hX hB hN hs).mono ?_
  rintro e V (⟨he, rfl, hb⟩ | ⟨he, g, rfl, hg, hG, hb⟩)
  · exact ⟨none, 0, 0, 0, 0, rfl, fun h => absurd h he, hb⟩
  · refine ⟨_, _, _, _, _, by rw [he], fun _ => ⟨rfl, rfl, ?_⟩, hb⟩
    obtain ⟨a1, a2, a3, a4, -⟩ := ck_zero.1 he
    have hl : (spR f d BS NS []).1.length = NS.length := by
      have := spR_len (Prod.ext rfl a4 : spR f d BS NS [] = (_, 0))
      simpa using this
    have h2 := spans_has hG (by rw [hl]; exact (sound_root a2).2.2)
    rw [hl] at h2
    exact h2
/-- What Lower answers, in one form. -/
theorem lower_two (f d : Int) {W : World} {na ba da : Option Addr} {nl nc bl bc dl dc : Nat} {root : Int} {NM : List Txt} {BS : List Int} {NS : List Nd} (hX : Tx W na nl nc NM) (hB : Iz W ba bl bc BS) (hN : Nz W da dl dc NS) (hs : ∀ s ∈ NM, s.length ≤ 9223372036854775807) :
    Calls Tryz.prog 13 #[.agg (kdA f d), .agg (tr4 (.slice na nl nc) (.slice ba bl bc) (.slice da dl dc) (.int .i64 root))] W fun e W' =>
      ∃ F D I o a c, e = .returned (.tuple #[.agg (Cde.cd F D a I.length c o), .int .i64 (ckE f d NM BS NS root)]) ∧ Cde.Ins W' a I.length c I ∧ (ckE f d NM BS NS root ≠ 0 → I = []) ∧
        (ckE f d NM BS NS root = 0 → F = f ∧ D = d ∧ I = (loF f d BS NS).2 ∧ o = (loF f d BS NS).1.getD root.toNat 0) ∧ Below W.heap.size W W' := by
  refine (olower_any f d hX hB hN hs).mono ?_
  intro e V h
  obtain ⟨a, c, rfl, hI, hb⟩ := h.insV
  by_cases h0 : ckE f d NM BS NS root = 0
  · have hv : loV f d NM BS NS root = ⟨0, f, d, (loF f d BS NS).2, (loF f d BS NS).1.getD root.toNat 0⟩ := by unfold loV; rw [if_pos h0]
    rw [hv] at hI ⊢
    rw [h0]
    exact ⟨f, d, _, _, a, c, rfl, hI, fun h => absurd rfl h, fun _ => ⟨rfl, rfl, rfl, rfl⟩, hb⟩
  · have hv : loV f d NM BS NS root = ⟨ckE f d NM BS NS root, 0, 0, [], 0⟩ := by unfold loV; rw [if_neg h0]
    rw [hv] at hI ⊢
    exact ⟨0, 0, [], 0, a, c, rfl, hI, fun _ => rfl, fun h => absurd h h0, hb⟩
/-- The law's boxes. -/
structure Vw (W V : World) (bt br bk : Nat) (kd tr rp cd : Array Value) : Prop where
  k : HasC V W.heap.size 23 kd
  t : HasC V bt 46 tr
  r : HasC V br 30 rp
  c : HasC V bk 26 cd
  lo : Below W.heap.size W V
theorem Vw.below {W V V' : World} {bt br bk : Nat} {kd tr rp cd : Array Value} (h : Vw W V bt br bk kd tr rp cd) (hb : Below V.heap.size V V') : Vw W V' bt br bk kd tr rp cd :=
  ⟨h.k.below hb, h.t.below hb, h.r.below hb, h.c.below hb, bel h.lo hb⟩
theorem mixedV : Tryz.prog.follows .mixedOrders = true := by kernel_rfl

set_option maxRecDepth 100000 in
set_option maxHeartbeats 8000000 in
theorem lowered_walk (f d : Int) (s : ByteArray) (W : World) :
    Calls Tryz.prog 4 #[.agg (kdA f d), .string s] W fun e w' => e = .returned (.bool true) ∧ Below W.heap.size W w' := by
  have HA := hide fun V => Vfy.yawake_any V
  have HP := hide fun V => parse_tree s V
  have HB0 := hide (bel1 W (.cells (kdA f d) 23))
  have HK0 := hide (HasC.new W 23 (kdA f d))
  go_enter Tryz.func4, Tryz.ntmps4
  go_wp2_with fail
  refine (HP.out _).mono ?_
  rintro e V1 ⟨NM, BS, NS, root, na, nl, nc, ba, bl, bc, da, dl, dc, er, rfl, her, hsh, hX, hI, hN, hb⟩
  have HEr := hide her
  have HSh := hide hsh
  have hb2 := bel1 V1 (.cells (tr4 (.slice na nl nc) (.slice ba bl bc) (.slice da dl dc) (.int .i64 root)) 46)
  have HK1 := hide ((HK0.out.below hb).below hb2)
  have HT1 := hide (HasC.new V1 46 (tr4 (.slice na nl nc) (.slice ba bl bc) (.slice da dl dc) (.int .i64 root)))
  have HL1 := hide (bel (bel HB0.out hb) hb2)
  have HX := hide (hX.later hb2)
  have HI := hide (hI.later hb2)
  have HN := hide (hN.later hb2)
  obtain ⟨k0, k1, -, -⟩ := two_of (HK0.out.below hb)
  have z0 := (HK0.out.below hb).lt
  have HC := hide (check_two f d (root := root) HX.out HI.out HN.out HSh.out)
  clear her hsh hX hI hN hb hb2 HP HK0 HB0
  obtain ⟨ce, hce⟩ : ∃ ce, ckE f d NM BS NS root = ce := ⟨_, rfl⟩
  rw [hce] at HC
  go_wp2_with fail
  refine HC.out.mono ?_
  rintro e V3 ⟨ga, gl, gc, co, mx, rfl, hco, hb⟩
  have hb2 := bel1 V3 (.cells #[.slice ga gl gc, .int .i64 co, .int .i64 mx] 30)
  have HK2 := hide (HK1.out.below hb)
  have HT2 := hide (HT1.out.below hb)
  have HL2 := hide (bel HL1.out hb)
  have HRp := hide (HasC.new V3 30 #[.slice ga gl gc, .int .i64 co, .int .i64 mx])
  have HCo := hide fun h => (show co = coR NS ∧ gl = NS.length ∧ Spn.Spans (V3.alloc (.cells #[.slice ga gl gc, .int .i64 co, .int .i64 mx] 30)) ga gl gc (spR f d BS NS []).1 from ⟨(hco h).1, (hco h).2.1, (hco h).2.2.later hb2⟩)
  have HK3 := hide (HK2.out.below hb2)
  have HT3 := hide (HT2.out.below hb2)
  have HL3 := hide (bel HL2.out hb2)
  have HX3 := hide ((HX.out.later hb).later hb2)
  have HI3 := hide ((HI.out.later hb).later hb2)
  have HN3 := hide ((HN.out.later hb).later hb2)
  have HLw := hide (lower_two f d (root := root) HX3.out HI3.out HN3.out HSh.out)
  rw [hce] at HLw
  clear hco HX HI HN hb hb2 HC HK1 HT1 HL1 k0 k1 z0 HX3 HI3 HN3
  obtain ⟨k0, k1, -, -⟩ := two_of HK2.out
  obtain ⟨t0, t1, t2, t3⟩ := four_of HT2.out
  have z0 := HK2.out.lt
  have z2 := HT2.out.lt
  have HCe := hide hce
  clear hce
  go_wp2_with fail
  refine HLw.out.mono ?_
  rintro e V4 ⟨F, D, I, o, ca, cc, rfl, hIn, hI0, hI1, hb⟩
  have hb2 := bel1 V4 (.cells (Cde.cd F D ca I.length cc o) 26)
  have HM0 : Hid (Vw W (V4.alloc (.cells (Cde.cd F D ca I.length cc o) 26)) V1.heap.size V3.heap.size V4.heap.size (kdA f d) (tr4 (.slice na nl nc) (.slice ba bl bc) (.slice da dl dc) (.int .i64 root)) #[.slice ga gl gc, .int .i64 co, .int .i64 mx] (Cde.cd F D ca I.length cc o)) :=
    hide ⟨(HK3.out.below hb).below hb2, (HT3.out.below hb).below hb2, (HRp.out.below hb).below hb2, HasC.new _ _ _, bel (bel HL3.out hb) hb2⟩
  have HIn := hide (hIn.later hb2)
  have HI0 := hide hI0
  have HI1 := hide hI1
  have HCo4 := hide fun h => (show co = coR NS ∧ gl = NS.length ∧ Spn.Spans (V4.alloc (.cells (Cde.cd F D ca I.length cc o) 26)) ga gl gc (spR f d BS NS []).1 from ⟨(HCo.out h).1, (HCo.out h).2.1, ((HCo.out h).2.2.later hb).later hb2⟩)
  have HV := hide (Vfy.yverify_any F D o HIn.out)
  clear hIn hI0 hI1 hb hb2 HK2 HT2 HL2 HRp HK3 HT3 HL3 HCo HLw k0 k1 t0 t1 t2 t3 z0 z2
  generalize V1.heap.size = bt at *
  generalize V3.heap.size = br at *
  go_wp2_with fail
  generalize V4.heap.size = bk at *
  refine HV.out.mono ?_
  rintro e V5 ⟨sa, sc, rfl, hS, hb, -, -⟩
  obtain ⟨sn, hsn⟩ : ∃ m, Vfy.vfN F D I o = m := ⟨_, rfl⟩
  obtain ⟨so, hso⟩ : ∃ co, Vfy.vfC F D I o = co := ⟨_, rfl⟩
  obtain ⟨se, hse⟩ : ∃ er, Vfy.vfE F D I o = er := ⟨_, rfl⟩
  rw [hsn] at hS ⊢
  rw [hso, hse]
  have HSn := hide hsn
  have HSo := hide hso
  have HSe := hide hse
  have hb2 := bel1 V5 (.cells #[.slice sa sn sc, .int .i64 so, .int .i64 0] 30)
  have HM5 := hide ((HM0.out.below hb).below hb2)
  have HS5 := hide (hS.later hb2)
  have HR5 := hide (HasC.new V5 30 #[.slice sa sn sc, .int .i64 so, .int .i64 0])
  have HCo5 := hide fun h => (show co = coR NS ∧ gl = NS.length ∧ Spn.Spans (V5.alloc (.cells #[.slice sa sn sc, .int .i64 so, .int .i64 0] 30)) ga gl gc (spR f d BS NS []).1 from ⟨(HCo4.out h).1, (HCo4.out h).2.1, ((HCo4.out h).2.2.later hb).later hb2⟩)
  clear hsn hso hse hS hb hb2 HM0 HV HCo4 HIn
  go_wp2_with fail
  generalize V5.heap.size = bs at *
  refine (HA.out _).mono ?_
  rintro e V6 ⟨rfl, hb⟩
  have HM6 := hide (HM5.out.below hb)
  have HS6 := hide (HS5.out.later hb)
  have HR6 := hide (HR5.out.below hb)
  have HCo6 := hide fun h => (show co = coR NS ∧ gl = NS.length ∧ Spn.Spans V6 ga gl gc (spR f d BS NS []).1 from ⟨(HCo5.out h).1, (HCo5.out h).2.1, (HCo5.out h).2.2.later hb⟩)
  clear hb HM5 HS5 HR5 HCo5
  by_cases h1 : ce = 0
  · subst h1
    have h0 : er = 0 := Classical.byContradiction fun h => by
      have h2 := ck_sound HCe.out
      rw [HEr.out h] at h2
      cases h2
    subst h0
    obtain ⟨rfl, rfl, hIl, hol⟩ := HI1.out rfl
    obtain ⟨t1, t2, t3, t4, t5, t6, t7⟩ := lo_taken HCe.out hIl hol
    obtain ⟨u1, u2, u3⟩ := HCo6.out rfl
    rw [HSe.out] at t1
    rw [HSo.out, ← u1] at t2
    rw [HSn.out] at t4
    subst t1 t2 u2
    obtain ⟨q, rfl⟩ : ∃ q : Nat, o = (q : Int) := ⟨o.toNat, by omega⟩
    rw [Int.toNat_natCast] at t4 t5
    obtain ⟨b1, o1, rfl, -, hc1⟩ := HS6.out.at (by omega)
    obtain ⟨s0, s1⟩ := hc1 q t4
    obtain ⟨b2, o2, rfl, -, hc2⟩ := u3.at (by omega)
    obtain ⟨w0, w1⟩ := hc2 (NS.length - 1) (by omega)
    rw [t5] at s0 s1
    generalize (spR F D BS NS []).1.getD (NS.length - 1) (0, 0) = sv at *
    obtain ⟨x, y⟩ := sv
    simp only at s0 s1 w0 w1
    obtain ⟨r0, r1, r2, -, -, -⟩ := three_of HM6.out.r
    obtain ⟨p0, p1, p2, -, -, -⟩ := three_of HR6.out
    obtain ⟨c0, c1, c2, c3⟩ := four_of HM6.out.c
    obtain ⟨gl, hgl⟩ : ∃ gl, NS.length = gl := ⟨_, rfl⟩
    have v1 : (q : Int) < sn := by omega
    have v2 : (0 : Int) ≤ q := by omega
    have v3 : (0 : Int) < gl := by omega
    have v4 : ((gl : Int) - 1) = ((gl - 1 : Nat) : Int) := by omega
    have v5 : IntKind.i64.wrap ((gl : Int) - 1) = ((gl - 1 : Nat) : Int) := by rw [IntKind.wrap_i64]; omega
    have v6 : ((gl - 1 : Nat) : Int) < gl := by omega
    have v7 : (0 : Int) ≤ ((gl - 1 : Nat) : Int) := by omega
    have v8 : 0 < gl := by omega
    have v9 : decide (0 < gl) = true := by simpa using v8
    rw [hgl] at w0 w1 r0 ⊢
    obtain ⟨ga, hga⟩ : ∃ ga, gl - 1 = ga := ⟨_, rfl⟩
    rw [hga] at v4 v5 v6 v7 w0 w1
    have HLo := hide HM6.out.lo
    clear t3 t4 t5 t6 t7 hc1 hc2 hIl hol hgl hga u3 HCo6 HS6 HI1 HI0 HEr HCe HSh HSn HSo HSe v4
    go_wp2_with fail
    go_quiet (fail)
    have HB7 := hide (bel HLo.out (Cde.below_dN V6 nq))
    clear s0 s1 w0 w1 r0 r1 r2 p0 p1 p2 c0 c1 c2 c3
    go_wp2_with fail
    go_ret
    exact ⟨rfl, HB7.out⟩
  · have hr1 : (ce != 0) = true := by simpa using h1
    have hI := HI0.out h1
    subst hI
    have hs := HSe.out
    rw [none_taken] at hs
    subst hs
    have HLo := hide HM6.out.lo
    clear h1 HI0 HI1 HCo6 HS6 HSe HSn HSo
    by_cases h0 : er = 0
    · have hr0 : (er != 0) = false := by simpa using h0
      go_wp2_with fail
      refine (HA.out _).mono ?_
      rintro e V7 ⟨rfl, hb⟩
      go_wp2_with fail
      go_ret
      exact ⟨rfl, bel HLo.out hb⟩
    · have hr0 : (er != 0) = true := by simpa using h0
      go_wp2_with fail
      refine (HA.out _).mono ?_
      rintro e V7 ⟨rfl, hb⟩
      go_wp2_with fail
      go_ret
      exact ⟨rfl, bel HLo.out hb⟩

end Go.Proofs.YtlhbgkaknfhlnaaGreat
