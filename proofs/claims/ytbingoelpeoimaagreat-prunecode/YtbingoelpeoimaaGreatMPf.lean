/-
  The document's Live: registers are marked until no further one is.
-/
import Derived.Test.YtbingoelpeoimaaGreatMPA
import Derived.Test.YtbingoelpeoimaaGreatMCdM
import Derived.Test.YtbingoelpeoimaaGreatMCdU
namespace Go.Proofs.Prn
open Go.RowKit Go.IntWalk YtbingoelpeoimaaGreat.Knd
open Cde (In i0 ia kd cd Ins at6 six_of four_of two_of has_new1 okI okT below_drew is6 i6 zA zA_get take_snoc agL arN abc rgN mcB Ls)
open Rdc (mixedF own_ne own_grow own_two)
set_option linter.unusedVariables false

/-- What a round has done to the marks. -/
def Rn (A0 A : List Int) (b : Bool) : Prop := (b = false → A = A0) ∧ (b = true → zrN A < zrN A0)
theorem Rn.start (A : List Int) : Rn A A false := ⟨fun _ => rfl, (fun h => by cases h)⟩
theorem Rn.mark {A0 A : List Int} {b : Bool} {p : Nat} (h : Rn A0 A b) (hp : p < A.length) (h0 : A.getD p 0 = 0) : Rn A0 (A.set p 1) true := by
  refine ⟨(fun h => by cases h), fun _ => ?_⟩
  have := zr_set A p hp h0
  cases b with
  | false => rw [h.1 rfl] at this ⊢; omega
  | true => have := h.2 rfl; omega
/-- Closed up to i, if the round has done nothing; and at i, the first q registers. -/
def Ci (L : List In) (A0 : List Int) (b : Bool) (i : Nat) : Prop := b = false → Cl L A0 i
def Cq (m : In) (A0 : List Int) (b : Bool) (i q : Nat) : Prop := b = false → A0.getD i 0 = 1 → ∀ r ∈ (agL m).take q, A0.getD r.toNat 0 = 1
theorem Ci.succ {L : List In} {A0 : List Int} {b b' : Bool} {i : Nat} {m : In} (h : Ci L A0 b i) (hb : b' = false → b = false) (hm : L.getD i i0 = m) (hq : Cq m A0 b' i (arN m)) : Ci L A0 b' (i + 1) := by
  intro h0 j hj h1 r hr
  by_cases e : j = i
  · subst e
    rw [hm] at hr
    exact hq h0 h1 r (by rw [Cde.agL_full]; exact hr)
  · exact h (hb h0) j (by omega) h1 r hr
/-- The marked ones below k, rising. -/
def mkL (A : List Int) (k : Nat) : List Int := ((List.range k).filter fun i => decide (A.getD i 0 = 1)).map fun i : Nat => (i : Int)
theorem mkL_yes {A : List Int} {k : Nat} (h : A.getD k 0 = 1) : mkL A (k + 1) = mkL A k ++ [(k : Int)] := by
  unfold mkL
  rw [List.range_succ, List.filter_append, List.filter_cons_of_pos (by simpa using h), List.map_append]
  rfl
theorem mkL_no {A : List Int} {k : Nat} (h : A.getD k 0 ≠ 1) : mkL A (k + 1) = mkL A k := by
  unfold mkL
  rw [List.range_succ, List.filter_append, List.filter_cons_of_neg (by simpa using h)]
  simp
theorem mkL_len (A : List Int) (k : Nat) : (mkL A k).length ≤ k := by
  unfold mkL
  rw [List.length_map]
  refine Nat.le_trans (List.length_filter_le _ _) ?_
  simp
/-- What the document's Live keeps: its code and the marks. -/
structure Mq (W V : World) (cv : Array Value) (g : Nat) (A : List Int) : Prop where
  c : HasC V W.heap.size 26 cv
  m : HasC V g 3 (zA A)
  lo : Below W.heap.size W V
  g0 : W.heap.size < g
theorem Mq.below {W V V' : World} {cv : Array Value} {g : Nat} {A : List Int} (h : Mq W V cv g A) (hb : Below V.heap.size V V') : Mq W V' cv g A := ⟨h.c.below hb, h.m.below hb, bel h.lo hb, h.g0⟩
theorem Mq.mark {W V : World} {cv : Array Value} {g : Nat} {A : List Int} (h : Mq W V cv g A) (p : Nat) : Mq W (V.setCell ⟨g, p, none⟩ (.int .i64 1)) cv g (A.set p 1) :=
  ⟨h.c.other (p := ⟨g, p, none⟩) (by have := h.g0; simp; omega) _, Cde.set_z h.m 1, h.lo.setCell (p := ⟨g, p, none⟩) (by have := h.g0; simp; omega) _, h.g0⟩

set_option maxRecDepth 100000 in
set_option maxHeartbeats 16000000 in
theorem glive_any (f d out : Int) {a : Option Addr} {n cap : Nat} {L : List In} {W : World} (hL : Ins W a n cap L) :
    Calls Tryz.prog 10 #[.agg (cd f d a n cap out)] W fun e W' => ∃ a' c', e = .returned (.slice a' (liZ f d L out).length c') ∧ W'.ownsRow W.heap.size 3 1 (.slice a' (liZ f d L out).length c') (liZ f d L out).length (i64s (liZ f d L out)) ∧ Below W.heap.size W W' := by
  have hb1 := bel1 W (.cells (cd f d a n cap out) 26)
  have HC0 := hide (HasC.new W 26 (cd f d a n cap out))
  have HB0 := hide hb1
  have HCk := hide (Cde.xMay_any f d out (hL.later hb1))
  have HLI := hide hL
  have HLn := hide hL.len
  clear hb1
  cases hm : mcB f d L out
  · rw [hm] at HCk
    rw [show liZ f d L out = [] from if_neg (by rw [hm]; decide)]
    clear hm hL
    go_enter Tryz.func10, Tryz.ntmps10
    go_wp2_with fail
    refine HCk.out.mono ?_
    rintro e V1 ⟨rfl, hb⟩
    have HB1 := hide (bel HB0.out hb)
    clear hb
    go_wp2_with fail
    go_ret
    exact ⟨none, 0, rfl, ⟨rfl, .inl ⟨rfl, rfl⟩⟩, HB1.out⟩
  · rw [hm] at HCk
    have HP := hide (pc_of hm)
    obtain ⟨-, m1, m2, o1, o2, hok⟩ := Cde.mc_parts hm
    rw [show liZ f d L out = lvZ L out from if_pos hm]
    obtain ⟨Z, hZ⟩ : ∃ Z, lvZ L out = Z := ⟨_, rfl⟩
    obtain ⟨dl, hdl⟩ : ∃ dl, Z.length = dl := ⟨_, rfl⟩
    rw [hZ, hdl]
    have HZ := hide hZ
    have HDz := hide hdl
    clear hZ hdl
    rw [HLn.out] at m1 m2 o2 hok
    obtain ⟨o, rfl⟩ : ∃ o : Nat, out = o := ⟨out.toNat, by omega⟩
    have HOk := hide hok
    have hmk := Cde.make_z n (by omega)
    have hM0 := Mi.start (L := L) (out := (o : Int)) HP.out.o1
    rw [HLn.out] at hM0
    simp only [Int.toNat_natCast] at hM0
    have HM0 := hide hM0
    have hon : o < n := by omega
    obtain ⟨b, off, rfl, -, -⟩ := hL.at (by omega)
    clear hm hok hL hM0
    go_enter Tryz.func10, Tryz.ntmps10
    go_wp2_with fail
    refine HCk.out.mono ?_
    rintro e V1 ⟨rfl, hb⟩
    have HC1 := hide (HC0.out.below hb)
    have HB1 := hide (bel HB0.out hb)
    obtain ⟨c0, c1, c2, c3⟩ := four_of HC1.out
    have hg0 := HC1.out.lt
    have HL2 : Hid (Mq W (V1.alloc (.cells (zA (List.replicate n 0)) 3)) (cd f d (some ⟨b, off, none⟩) n cap (o : Int)) V1.heap.size (List.replicate n 0)) := hide ⟨HC1.out.alloc _, HasC.new V1 3 _, bel HB1.out (bel1 V1 _), hg0⟩
    clear hb HC0 HB0 HCk
    go_upto_region 4 with fail
    generalize V1.heap.size = g at *
    obtain ⟨V2, hV2⟩ : ∃ V2, V1.alloc (.cells (zA (List.replicate n 0)) 3) = V2 := ⟨_, rfl⟩
    rw [hV2] at HL2 ⊢
    clear HC1 HB1 c0 c1 c2 c3 hmk hV2
    obtain ⟨c0, c1, c2, c3⟩ := four_of HL2.out.c
    have d0 := HL2.out.m.cell o (zA_get _ o (by simpa using hon))
    have y0 := HL2.out.m.frozen o
    have HL3 := hide (HL2.out.mark o)
    have t0 : (0 : Int) ≤ o := by omega
    have t1 : (o : Int) < n := by omega
    generalize (List.replicate n (0 : Int)).getD o 0 = x0 at d0
    generalize (List.replicate n (0 : Int)).set o 1 = A1 at *
    go_wp2_with fail
    clear HL2 d0 y0 c0 c1 c2 c3
    go_loopg [4] (2 * n + 1) (fun gh mv wr => ∃ (A : List Int) (mb : Bool), mv = .bool mb ∧ 2 * zrN A + (if mb = true then 1 else 0) ≤ gh ∧ Hid (Mi L (o : Int) A) ∧ Hid (mb = false → Cl L A n) ∧ Hid (Mq W wr (cd f d (some ⟨b, off, none⟩) n cap (o : Int)) g A))
    case atStart => exact ⟨A1, true, rfl, by have h1 := zr_le A1; have h2 := HM0.out.len; rw [HLn.out] at h2; simp; omega, HM0, hide (fun h => by cases h), HL3⟩
    case round =>
      obtain ⟨A0, mb, rfl, hgh, HM, HCl, HL⟩ := hrel
      rename World => V
      clear HL3 HM0
      cases mb with
      | true =>
        simp only [if_true] at hgh
        have HGh := hide hgh
        clear hgh
        go_wp2_with fail
        go_loopw [4, 5] (fun mv iv wr => ∃ (i : Nat) (A : List Int) (mb : Bool), i ≤ n ∧ iv = .int .i64 i ∧ mv = .bool mb ∧ Hid (Mi L (o : Int) A) ∧ Hid (Rn A0 A mb) ∧ Hid (Ci L A0 mb i) ∧ Hid (Mq W wr (cd f d (some ⟨b, off, none⟩) n cap (o : Int)) g A)) (fun _ iv _ => n - (intOf iv).toNat)
        case atStart => exact ⟨0, A0, false, Nat.zero_le _, rfl, rfl, HM, hide (Rn.start A0), hide (fun _ j hj => absurd hj (by omega)), HL⟩
        case round =>
          obtain ⟨i, A, mb, hi, rfl, rfl, HM1, HR1, HC1, HL1⟩ := hrel
          rename World => V1
          obtain ⟨x0, x1, x2, x3⟩ := four_of HL1.out.c
          by_cases hlt : i < n
          · obtain ⟨e0, e1, e2, e3, e4, e5⟩ := ins_cells (HLI.out.later HL1.out.lo) i hlt
            have hOk := Cde.okT_at HOk.out hlt
            generalize hmm : L.getD i i0 = m at *
            have HMm := hide hmm
            have HR := hide fun q hq => Cde.ok_reg hOk (j := q) hq
            have hr3 := Cde.arN_le m
            have HA := hide fun w => Cde.xargs_any m w
            have HT := hide fun q (h : q < arN m) => Cde.agL_succ m h
            have HMem : Hid (∀ q, q < arN m → rgN m q ∈ agL m) := hide fun q h => by
              have := List.mem_of_mem_take (show rgN m q ∈ (agL m).take (q + 1) by rw [Cde.agL_succ m h]; simp)
              exact this
            have HRg : Hid (∀ q, q < 3 → (zA (abc m))[q]? = some (.int .i64 (rgN m q))) := hide fun q h => by rw [zA_get _ q (by simp [abc]; omega), Cde.abc_at m q h]
            generalize har : arN m = r at *
            have HAr := hide har
            have s0 : (0 : Int) ≤ i := by omega
            have s1 : (i : Int) < n := by omega
            clear hOk hmm har
            go_wp2_with fail
            refine (HA.out _).mono ?_
            rintro e V6 ⟨ga, rfl, hga, hGa, hb⟩
            have HL7 := hide (HL1.out.below hb)
            have HR6 := hide hGa
            have hne : g ≠ ga := Nat.ne_of_lt (Nat.lt_of_lt_of_le HL1.out.m.lt hga)
            clear hb hGa hga HL1 HA e0 e1 e2 e3 e4 e5 x0 x1 x2 x3
            go_wp2_with fail
            go_loopw [4, 7] (fun mv kv wr => ∃ (q : Nat) (A' : List Int) (mb' : Bool), q ≤ r ∧ kv = .int .i64 q ∧ mv = .bool mb' ∧ Hid (Mi L (o : Int) A') ∧ Hid (Rn A0 A' mb') ∧ Hid (mb' = false → mb = false) ∧ Hid (Cq m A0 mb' i q) ∧ Hid (HasC wr ga 3 (zA (abc m))) ∧ Hid (Mq W wr (cd f d (some ⟨b, off, none⟩) n cap (o : Int)) g A')) (fun _ kv _ => r - (intOf kv).toNat)
            case atStart => exact ⟨0, A, mb, Nat.zero_le _, rfl, rfl, HM1, HR1, hide fun h => h, hide (fun _ _ r hr => by simp at hr), HR6, HL7⟩
            case round =>
              obtain ⟨q, A', mb', hq, rfl, rfl, HM2, HR2, HB2, HQ2, HG2, HL8⟩ := hrel
              rename World => V7
              by_cases hqr : q < r
              · have cp := HG2.out.cell q (HRg.out q (by omega))
                obtain ⟨p0, p1⟩ := HR.out q hqr
                have hAl := HM2.out.len
                rw [HLn.out] at hAl
                obtain ⟨p, hp⟩ : ∃ p : Nat, rgN m q = (p : Int) := ⟨(rgN m q).toNat, by omega⟩
                have hmem := HMem.out q hqr
                have hts := HT.out q hqr
                rw [hp] at cp p1 hmem hts
                simp only [Int.toNat_natCast] at p1
                have di := HL8.out.m.cell i (zA_get _ i (by omega))
                have dp := HL8.out.m.cell p (zA_get _ p (by omega))
                have yp := HL8.out.m.frozen p
                have hbi := HM2.out.bit i
                have hbp := HM2.out.bit p
                obtain ⟨xi, hxi⟩ : ∃ x, A'.getD i 0 = x := ⟨_, rfl⟩
                obtain ⟨xp, hxp⟩ : ∃ x, A'.getD p 0 = x := ⟨_, rfl⟩
                rw [hxi] at di hbi
                rw [hxp] at dp hbp
                have k0 : (0 : Int) ≤ q := by omega
                have k1 : (q : Int) < r := by omega
                have k2 : (q : Int) < 3 := by omega
                have k3 : (0 : Int) ≤ p := by omega
                have k4 : (p : Int) < n := by omega
                have HNext : Hid (∀ mb2 : Bool, (mb2 = false → mb' = false) → (mb2 = false → A0.getD i 0 = 1 → A0.getD p 0 = 1) → Cq m A0 mb2 i (q + 1)) := hide fun mb2 h1 h2 h3 h4 x hx => by
                  rw [hts] at hx
                  rcases List.mem_append.1 hx with hx | hx
                  · exact HQ2.out (h1 h3) h4 x hx
                  · rw [List.mem_singleton] at hx; subst hx; exact h2 h3 h4
                rcases hbi with rfl | rfl
                · have HQ3 := hide (HNext.out mb' (fun h => h) fun h3 h4 => by rw [HR2.out.1 h3] at hxi; omega)
                  clear hts hmem hp p0 p1 HNext hxi hxp hbp
                  go_wp2_with fail
                  go_roundw
                  case rel => exact ⟨q + 1, A', mb', by omega, by go_num, rfl, HM2, HR2, HB2, HQ3, HG2, HL8⟩
                  case measure => (simp [intOf]; try omega)
                · rcases hbp with rfl | rfl
                  · have HM3 := hide (HM2.out.set (r := (p : Int)) hxi (by rw [HMm.out]; exact hmem))
                    have HR3 := hide (HR2.out.mark (p := p) (by omega) hxp)
                    have HQ3 : Hid (Cq m A0 true i (q + 1)) := hide fun h => by cases h
                    have HL9 := hide (HL8.out.mark p)
                    have HG3 := hide (HG2.out.other (p := ⟨g, p, none⟩) (by simp; omega) (.int .i64 1))
                    have HB3 : Hid (true = false → mb = false) := hide fun h => by cases h
                    simp only [Int.toNat_natCast] at HM3
                    clear hts hmem hp p0 p1 HNext hxi hxp
                    go_wp2_with fail
                    go_roundw
                    case rel => exact ⟨q + 1, A'.set p 1, true, by omega, by go_num, rfl, HM3, HR3, HB3, HQ3, HG3, HL9⟩
                    case measure => (simp [intOf]; try omega)
                  · have HQ3 := hide (HNext.out mb' (fun h => h) fun h3 h4 => by rw [HR2.out.1 h3] at hxp; exact hxp)
                    clear hts hmem hp p0 p1 HNext hxi hxp
                    go_wp2_with fail
                    go_roundw
                    case rel => exact ⟨q + 1, A', mb', by omega, by go_num, rfl, HM2, HR2, HB2, HQ3, HG2, HL8⟩
                    case measure => (simp [intOf]; try omega)
              · obtain rfl : q = r := by omega
                have HC3 := hide (HC1.out.succ HB2.out HMm.out (by rw [HAr.out]; exact HQ2.out))
                go_wp2_with fail
                go_roundw
                case rel => exact ⟨i + 1, A', mb', by omega, by go_num, rfl, HM2, HR2, HC3, HL8⟩
                case measure => (simp [intOf]; try omega)
          · obtain rfl : i = n := by omega
            have HC2 : Hid (mb = false → Cl L A i) := hide fun h => by rw [HR1.out.1 h]; exact HC1.out h
            have HNg : Hid (2 * zrN A + (if mb = true then 1 else 0) < gk) := hide (by
              have h1 := HGh.out
              cases mb with
              | false => rw [HR1.out.1 rfl]; simp; omega
              | true => have := HR1.out.2 rfl; simp; omega)
            go_wp2_with fail
            go_roundg (2 * zrN A + (if mb = true then 1 else 0))
            case measure => exact HNg.out
            case rel => exact ⟨A, mb, rfl, Nat.le_refl _, HM1, HC2, HL1⟩
      | false =>
        have HCn := hide (HCl.out rfl)
        have hlive := HM.out.live HP.out (by rw [HLn.out]; exact HCn.out)
        have hAl := HM.out.len
        rw [HLn.out] at hAl hlive
        have HFin : Hid (mkL A0 n = Z) := hide (by unfold mkL; rw [hlive, ← HZ.out]; rfl)
        have HAl := hide hAl
        have HLs0 := hide (Ls.start V)
        clear hgh hlive hAl HCl HCn
        go_wp2_with fail
        go_loopw [8, 9] (fun lv iv wr => ∃ (k : Nat), k ≤ n ∧ iv = .int .i64 k ∧ Hid (Ls V wr lv (mkL A0 k))) (fun _ iv _ => n - (intOf iv).toNat)
        case atStart => exact ⟨0, Nat.zero_le _, rfl, HLs0⟩
        case round =>
          obtain ⟨k, hk, rfl, HLs⟩ := hrel
          rename World => V7
          rename Value => lv
          by_cases hlt : k < n
          · have dk := (HL.out.m.below HLs.out.bel).cell k (zA_get _ k (by rw [HAl.out]; exact hlt))
            have hbk := HM.out.bit k
            obtain ⟨xk, hxk⟩ : ∃ x, A0.getD k 0 = x := ⟨_, rfl⟩
            rw [hxk] at dk hbk
            have k3 : (0 : Int) ≤ k := by omega
            have k4 : (k : Int) < n := by omega
            rcases hbk with rfl | rfl
            · have HE := hide (mkL_no (A := A0) (k := k) (by omega))
              clear hxk
              go_wp2_with fail
              go_roundw
              case rel => exact ⟨k + 1, by omega, by go_num, hide (by rw [HE.out]; exact HLs.out)⟩
              case measure => (simp [intOf]; try omega)
            · have HE := hide (mkL_yes hxk)
              have hml := mkL_len A0 k
              have HN := hide (HasC.new V7 3 #[.int .i64 (k : Int)])
              have HLs2 := hide (HLs.out.alloc (.cells #[.int .i64 (k : Int)] 3))
              clear hxk
              go_wp2_with (at_builtin; refine Cde.list_ls (w := V) (L := mkL A0 k) rfl _ _ rfl rfl HLs2.out _ (k : Int) rfl HN.out (by omega) ?_; intro g2 cap2 w2 HE2)
              have HLs3 := hide HE2
              rw [← HE.out] at HLs3
              go_wp2_with fail
              go_roundw
              case rel => exact ⟨k + 1, by omega, by go_num, HLs3⟩
              case measure => (simp [intOf]; try omega)
          · obtain rfl : k = n := by omega
            have hO := HLs.out.a
            rw [HFin.out, HDz.out] at hO
            obtain ⟨a', c', e', -, -⟩ := Ints.of_owns hO
            subst e'
            have HO := hide (Cde.own_mono hO HL.out.lo.size)
            have HB := hide (bel HL.out.lo HLs.out.bel)
            clear hO HLs
            go_wp2_with fail
            go_ret
            exact ⟨_, _, rfl, HO.out, HB.out⟩

end Go.Proofs.Prn
