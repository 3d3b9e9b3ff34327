/-
  The document's Prune.
-/
import Derived.Test.YtbingoelpeoimaaGreatMPf
import Derived.Test.YtbingoelpeoimaaGreatMPD
import Derived.Test.YtbingoelpeoimaaGreatMPk
import Derived.Test.YtbingoelpeoimaaGreatMYL
import Derived.Test.YtbingoelpeoimaaGreatMCdE
namespace Go.Proofs.Prn
open Go.RowKit Go.IntWalk YtbingoelpeoimaaGreat.Knd
open Cde (In i0 ia kd cd Ins at6 six_of four_of two_of has_new1 below_drew is6 i6 zA zA_get or_t ord_of)
open Rdc (mixedF own_ne own_grow own_two cdz s4 four_fr s4_own infoI ins_list)
open Fld (thI)
open Vfy (vfE vfN vfC)
set_option linter.unusedVariables false

theorem wp_flags3' {P : Program} {ops : Array Oper} {Q : Exit → Act → World → Prop} {id : Nat} {a : Act} {w : World} (hm : P.follows .mixedOrders = true)
    (hord : ∀ (i : Nat) (o : Oper), ops[i]? = some o → ∀ e ∈ o.after, e.on < i) (I : Act → (Nat → Bool) → Act → World → Prop)
    (h0 : I a (fun _ => false) a { w with drawn := w.drawn + 1 })
    (hs : ∀ d A w i o, I a d A w → d i = false → ops[i]? = some o → (∀ e ∈ o.after, Region.binds .any e = true → d e.on = true) → ∀ Q' : Exit → Act → World → Prop, (∀ A w, I a (fun j => j == i || d j) A w → Q' .normal A w) → wpList P ops Q' [o] A w)
    (he : ∀ d A w, I a d A w → (∀ i, i < ops.size → d i = true) → Q .normal A w) : (Code.region id ops true).wp P Q a w := Cde.wp_region_flags hm hord (I a) h0 hs he
/-- The drawn region that puts one more instruction into the new code, by which of its operations are done. -/
structure Gq (V2 : World) (cb gb gt : Nat) (f d u : Int) (am : Option Addr) (k cm : Nat) (b off n cap lb lo rn lc r : Nat) (M : List In) (T : List Int) (m nm : In) (q : Nat → Bool) (y0 y1 y2 y3 y4 y5 y6 y7 y8 y9 y10 y11 y12 y13 y14 : Value) (w : World) : Prop where
  b2 : Below V2.heap.size V2 w
  tt : HasC w gt 3 (zA T)
  ob : q 15 = false → HasC w gb 26 (cd f d am k cm u)
  oc : q 15 = true → HasC w gb 26 #[.int .i64 f, .int .i64 d, y13, .int .i64 u]
  rw : q 13 = false → w.ownsRow V2.heap.size 44 6 (.slice am k cm) M.length (is6 M)
  f0 : q 0 = true → y0 = .pointer (some ⟨gb, 2, none⟩)
  f1 : q 1 = true → y1 = .slice am k cm
  f2 : q 2 = true → y2 = .pointer (some ⟨cb, 2, none⟩)
  f3 : q 3 = true → y3 = .slice (some ⟨b, off, none⟩) n cap
  f4 : q 4 = true → y4 = .slice (some ⟨lb, lo, none⟩) rn lc
  f5 : q 5 = true → y5 = .int .i64 (k : Int)
  f6 : q 6 = true → y6 = .pointer (some ⟨lb, lo + k, none⟩)
  f7 : q 7 = true → y7 = .int .i64 (r : Int)
  f8 : q 8 = true → y8 = .pointer (some ⟨b, off + r * 6, none⟩)
  f9 : q 9 = true → y9 = .agg (ia m)
  f10 : q 10 = true → y10 = .slice (some ⟨gt, 0, none⟩) n n
  f11 : q 11 = true → y11 = .agg (ia nm)
  f12 : q 12 = true → q 13 = false → ∃ g, y12 = .slice (some ⟨g, 0, none⟩) 1 1 ∧ HasC w g 44 (ia nm)
  f13 : q 13 = true → ∃ g c, y13 = .slice (some ⟨g, 0, none⟩) (M.length + 1) c ∧ w.ownsRow V2.heap.size 44 6 (.slice (some ⟨g, 0, none⟩) (M.length + 1) c) (M ++ [nm]).length (is6 (M ++ [nm]))
  f14 : q 14 = true → y14 = .pointer (some ⟨gb, 2, none⟩)
  ph : q 15 = true → q 1 = true ∧ q 13 = true
theorem has_ne2 {w : World} {b c : Nat} {t s : TypeId} {cs ds : Array Value} (h : HasC w b t cs) (k : HasC w c s ds) (hne : t ≠ s) : b ≠ c := by
  rintro rfl
  have k2 : w.heap[b]? = some (.cells ds s (0, 0)) := k
  rw [show w.heap[b]? = _ from h] at k2
  cases k2
  exact hne rfl

set_option maxRecDepth 100000 in
set_option maxHeartbeats 32000000 in
theorem gprune_any (f d out : Int) {a : Option Addr} {n cap : Nat} {L : List In} {W : World} (hL : Ins W a n cap L) :
    Calls Tryz.prog 6 #[.agg (cd f d a n cap out)] W (FoP W f d L out) := by
  have b1 := bel1 W (.cells (cd f d a n cap out) 26)
  have b2 := bel b1 (bel1 _ (.cells cdz 26))
  have HF0 : Hid (Fg W ((W.alloc (.cells (cd f d a n cap out) 26)).alloc (.cells cdz 26)) (cd f d a n cap out) cdz) :=
    hide ⟨(HasC.new W 26 (cd f d a n cap out)).alloc (.cells cdz 26), has_new1 W (.cells (cd f d a n cap out) 26) 26 cdz, b2⟩
  have HV := hide (Vfy.jverify_any f d out (hL.later b2))
  have HLI := hide hL
  have HLn := hide hL.len
  clear b1 b2
  go_enter Tryz.func6, Tryz.ntmps6
  go_wp2_with fail
  refine HV.out.mono ?_
  rintro e V1 ⟨ga, gc, rfl, hS, hb, -, -⟩
  obtain ⟨vm, hm⟩ : ∃ m, vfN f d L out = m := ⟨_, rfl⟩
  obtain ⟨co, hco⟩ : ∃ co, vfC f d L out = co := ⟨_, rfl⟩
  obtain ⟨er, her⟩ : ∃ er, vfE f d L out = er := ⟨_, rfl⟩
  rw [hm, hco, her]
  have HEr := hide her
  have hb2 := bel1 V1 (.cells #[.slice ga vm gc, .int .i64 co, .int .i64 0] 47)
  have HF1 := hide ((HF0.out.below hb).below hb2)
  clear hm hco her hb hb2 hS HV
  by_cases h0 : er = 0
  · have hr : (er != 0) = false := by simpa using h0
    have h0' := HEr.out.trans h0
    obtain ⟨mc, -⟩ := Vfy.vf_parts h0'
    have HP := hide (pc_of mc)
    have hlz : liZ f d L out = lvZ L out := if_pos mc
    obtain ⟨-, m1, m2, o0, o1, hok⟩ := Cde.mc_parts mc
    rw [HLn.out] at m1 m2 o1 hok
    have HOk := hide hok
    obtain ⟨o, rfl⟩ : ∃ o : Nat, out = o := ⟨out.toNat, by omega⟩
    have hon : o < n := by omega
    obtain ⟨b, off, rfl, -, -⟩ := hL.at (by omega)
    clear mc hok hL
    go_upto_region 4 with fail
    obtain ⟨V1b, hV1b⟩ : ∃ V2, V1.alloc (.cells #[.slice ga vm gc, .int .i64 co, .int .i64 0] 47) = V2 := ⟨_, rfl⟩
    rw [hV1b] at HF1 ⊢
    clear hV1b HF0
    obtain ⟨x0, x1, x2, x3⟩ := four_of HF1.out.c
    have hLv := glive_any f d (o : Int) (HLI.out.later HF1.out.lo)
    rw [hlz] at hLv
    obtain ⟨rn, hrn⟩ : ∃ rl, (lvZ L (o : Int)).length = rl := ⟨_, rfl⟩
    rw [hrn] at hLv
    have HLv := hide hLv
    have hrl : (lvL L (o : Int)).length = rn := by rw [← lvZ_len]; exact hrn
    have HRn := hide hrn
    have HRl := hide hrl
    have hr1 : rn ≤ n := by have := lvL_few L (o : Int); rw [HLn.out] at this; omega
    have hr0 : 1 ≤ rn := by have := HP.out.last.2.1; omega
    have hmk := Cde.make_z n (by omega)
    clear hLv hrn hrl hlz
    go_wp2_with fail
    refine HLv.out.mono ?_
    rintro e V2 ⟨la, lc, rfl, hO, hb⟩
    have hI := Cde.tw_ints (w := V1b) (a := la) (c := lc) (D := lvZ L (o : Int)) (by rw [HRn.out]; exact hO)
    rw [HRn.out] at hI
    obtain ⟨lb, lo, rfl, hlb, hlc⟩ := hI.at (by omega)
    have HF2 := hide (HF1.out.below hb)
    have HLc := hide hlc
    have HLb := hide hlb
    clear hO hb hI hlc hlb HLv HF1 x0 x1 x2 x3
    obtain ⟨x0, x1, x2, x3⟩ := four_of HF2.out.c
    have HRr : Hid (∀ V, Below V2.heap.size V2 V → ∀ k, k < rn → V.cell? ⟨lb, lo + k, none⟩ = some (.int .i64 (((lvL L (o : Int)).getD k 0 : Nat) : Int))) := hide fun V hb k hk => by
      rw [hb.cell (p := ⟨lb, lo + k, none⟩) HLb.out, HLc.out k hk, lvZ_at (by rw [HRl.out]; exact hk)]
    have HRb : Hid (∀ k, k < rn → (lvL L (o : Int)).getD k 0 < n) := hide fun k hk => by
      have := (HP.out.mem (j := k) (by rw [HRl.out]; exact hk)).1
      rw [HLn.out] at this; exact this
    have HG0 := hide (HasC.new V2 3 (zA (List.replicate n 0)))
    have HB0 := hide (bel1 V2 (.cells (zA (List.replicate n 0)) 3))
    go_wp2_with fail
    clear hmk x0 x1 x2 x3
    obtain ⟨gt, hgt⟩ : ∃ gt, V2.heap.size = gt := ⟨_, rfl⟩
    have HGt := hide hgt
    rw [hgt] at HG0 ⊢
    clear hgt
    go_loopw [8] (fun iv wr => ∃ k : Nat, k ≤ rn ∧ iv = .int .i64 k ∧ Hid (HasC wr gt 3 (zA (toK (lvL L (o : Int)) n k))) ∧ Hid (Below V2.heap.size V2 wr)) (fun iv _ => rn - (intOf iv).toNat)
    case atStart => exact ⟨0, Nat.zero_le _, rfl, HG0, HB0⟩
    case round =>
      obtain ⟨k, hk, rfl, HG, HB⟩ := hrel
      rename World => V
      clear HG0 HB0
      by_cases hlt : k < rn
      · have c0 := HRr.out V HB.out k hlt
        have hr := HRb.out k hlt
        have htl := toK_len (lvL L (o : Int)) n k
        have hts := toK_succ (lvL L (o : Int)) n k
        generalize (lvL L (o : Int)).getD k 0 = r at *
        have d0 := HG.out.cell r (zA_get _ r (by rw [htl]; exact hr))
        have y0 := HG.out.frozen r
        generalize (toK (lvL L (o : Int)) n k).getD r 0 = x0 at d0
        have HG1 := hide (Cde.set_z (k := r) HG.out (k : Int))
        rw [← hts] at HG1
        have HB1 := hide (HB.out.setCell (p := ⟨gt, r, none⟩) (by have := HGt.out; simp; omega) (.int .i64 (k : Int)))
        have i0 : (0 : Int) ≤ k := by omega
        have i1 : (k : Int) < rn := by omega
        have i2 : (0 : Int) ≤ r := by omega
        have i3 : (r : Int) < n := by omega
        clear htl hts
        go_wp2_with fail
        go_roundw
        case rel => exact ⟨k + 1, by omega, by go_num, HG1, HB1⟩
        case measure => (simp [intOf]; try omega)
      · obtain rfl : k = rn := by omega
        have htf := toK_full HP.out
        rw [HRl.out, HLn.out] at htf
        rw [htf] at HG
        have t0 := HG.out.cell o (zA_get _ o (by rw [toL_len, HLn.out]; exact hon))
        have hpo : prO L (o : Int) = (toL L (o : Int)).getD o 0 := rfl
        obtain ⟨z, hz⟩ : ∃ z, (toL L (o : Int)).getD o 0 = z := ⟨_, rfl⟩
        rw [hz] at t0 hpo
        have HPo := hide hpo
        have HTl := hide (show (toL L (o : Int)).length = n by rw [toL_len, HLn.out])
        have HF3 := hide (HF2.out.below HB.out)
        obtain ⟨x0, x1, x2, x3⟩ := four_of HF3.out.c
        have z0 := HF3.out.c.lt
        have zg := HG.out.lt
        have j0 : (0 : Int) ≤ o := by omega
        have j1 : (o : Int) < n := by omega
        clear htf hpo hz hlt
        go_wp2_with fail
        go_region
        have hb := bel1 V (.cells (cd f d none 0 0 z) 26)
        have hbd := below_drew (V.alloc (.cells (cd f d none 0 0 z) 26))
        have HB6 := hide (bel (bel HB.out hb) hbd)
        have HX6 := hide ((HasC.new V 26 (cd f d none 0 0 z)).below hbd)
        have HG6 := hide ((HG.out.below hb).below hbd)
        have HNe : Hid (gt ≠ V.heap.size) := hide (by omega)
        have HGb := hide HB.out.size
        obtain ⟨gb, hgb⟩ : ∃ gb, V.heap.size = gb := ⟨_, rfl⟩
        obtain ⟨V6, hV6⟩ : ∃ V6, (V.alloc (.cells (cd f d none 0 0 z) 26)).drew = V6 := ⟨_, rfl⟩
        rw [hV6] at HB6 HX6 HG6 ⊢
        rw [hgb] at HX6 HNe HGb ⊢
        clear hb hbd hgb hV6 HB HG HF3 x0 x1 x2 x3 z0 zg t0
        go_wp2_with fail
        go_loopw [10] (fun iv wr => ∃ (j : Nat) (am : Option Addr) (cm : Nat), j ≤ k ∧ iv = .int .i64 j ∧ Hid (HasC wr gb 26 (cd f d am j cm z)) ∧ Hid (wr.ownsRow V2.heap.size 44 6 (.slice am j cm) (prK L (o : Int) j).length (is6 (prK L (o : Int) j))) ∧ Hid (HasC wr gt 3 (zA (toL L (o : Int)))) ∧ Hid (Below V2.heap.size V2 wr)) (fun iv _ => k - (intOf iv).toNat)
        case atStart => exact ⟨0, none, 0, Nat.zero_le _, rfl, HX6, hide ⟨rfl, .inl ⟨rfl, rfl⟩⟩, HG6, HB6⟩
        case round =>
          obtain ⟨j, am, cm, hj, rfl, HX, HO, HG, HB⟩ := hrel
          rename World => V
          clear HX6 HG6 HB6
          by_cases hlt : j < k
          · have hjl : j < (lvL L (o : Int)).length := by rw [HRl.out]; exact hlt
            have hr := HRb.out j hlt
            have hpn := prN_at (L := L) (out := (o : Int)) hjl
            have hps := prK_succ (L := L) (out := (o : Int)) hjl
            have hpl := prK_len (L := L) (out := (o : Int)) (k := j) (by omega)
            have HRg := hide fun w hb => HRr.out w hb j hlt
            generalize (lvL L (o : Int)).getD j 0 = r at *
            have HIc := hide fun w (hb : Below V2.heap.size V2 w) => ins_cells (HLI.out.later (bel HF2.out.lo hb)) r hr
            have hto := th_need (Cde.okT_at HOk.out hr)
            have hTh := fun w (h : HasC w gt 3 (zA (toL L (o : Int)))) => gthrough_any (L.getD r i0) (Cde.has_z h (by rw [HTl.out]; omega)) (by rw [HTl.out]; exact ⟨fun h => ⟨(hto.1 h).1, by have := (hto.1 h).2; omega⟩, fun h => ⟨(hto.2.1 h).1, by have := (hto.2.1 h).2; omega⟩, fun h => ⟨(hto.2.2 h).1, by have := (hto.2.2 h).2; omega⟩⟩)
            rw [HTl.out, ← hpn] at hTh
            have HTh := hide hTh
            have HPs := hide hps
            have HMl := hide hpl
            have HC := hide HF2.out.c
            generalize (prN L (o : Int)).getD j i0 = nm at *
            generalize L.getD r i0 = m at *
            generalize hMM : prK L (o : Int) j = M at *
            generalize hTT : toL L (o : Int) = T at *
            have i0' : (0 : Int) ≤ j := by omega
            have i1' : (j : Int) < k := by omega
            have i2' : (0 : Int) ≤ r := by omega
            have i3' : (r : Int) < n := by omega
            clear hjl hpn hps hpl hto hTh hMM
            go_wp2_with fail
            refine wp_flags3' mixedF (ord_of (by kernel_rfl)) (fun a0 q A w => ∃ y0 y1 y2 y3 y4 y5 y6 y7 y8 y9 y10 y11 y12 y13 y14, A = ⟨(((((((((((((((a0.tmps.setIfInBounds 53 y0).setIfInBounds 54 y1).setIfInBounds 55 y2).setIfInBounds 56 y3).setIfInBounds 57 y4).setIfInBounds 58 y5).setIfInBounds 59 y6).setIfInBounds 60 y7).setIfInBounds 61 y8).setIfInBounds 62 y9).setIfInBounds 63 y10).setIfInBounds 64 y11).setIfInBounds 65 y12).setIfInBounds 66 y13).setIfInBounds 67 y14), a0.defers⟩ ∧ Gq V2 W.heap.size gb gt f d z am j cm b off n cap lb lo k lc r M T m nm q y0 y1 y2 y3 y4 y5 y6 y7 y8 y9 y10 y11 y12 y13 y14 w) ?_ ?_ ?_
            · simp only [List.setIfInBounds_toArray, List.set_cons_succ, List.set_cons_zero]
              refine ⟨_, _, _, _, _, _, _, _, _, _, _, _, _, _, _, rfl, HB.out.drew, HG.out.below (below_drew V), fun _ => HX.out.below (below_drew V), ?_, fun _ => HO.out.drew, ?_, ?_, ?_, ?_, ?_, ?_, ?_, ?_, ?_, ?_, ?_, ?_, ?_, ?_, ?_, ?_⟩
              all_goals first | (intro h; cases h; done) | (intro h _; cases h; done)
            · rintro q A w i op ⟨y0, y1, y2, y3, y4, y5, y6, y7, y8, y9, y10, y11, y12, y13, y14, rfl, C⟩ hdi ho haft Q' hk'
              simp only [List.setIfInBounds_toArray, List.set_cons_succ, List.set_cons_zero] at hk' ⊢
              have HK := hide hk'
              clear hk'
              have hi : i < 16 := (Array.getElem?_eq_some_iff.1 ho).1
              match i, hi with
              | 0, _ =>
                obtain rfl := (Option.some.inj ho)
                clear haft ho
                have C := hide C
                go_wp2
                have C := C.out
                exact HK.out _ _ ⟨_, y1, y2, y3, y4, y5, y6, y7, y8, y9, y10, y11, y12, y13, y14, rfl, ⟨C.b2, C.tt, C.ob, C.oc, C.rw, (fun _ => rfl), C.f1, C.f2, C.f3, C.f4, C.f5, C.f6, C.f7, C.f8, C.f9, C.f10, C.f11, C.f12, C.f13, C.f14, (fun h => ⟨or_t (C.ph h).1, or_t (C.ph h).2⟩)⟩⟩
              | 1, _ =>
                obtain rfl := (Option.some.inj ho)
                have g0 : q 0 = true := haft ⟨0, .data⟩ (by simp) rfl
                clear haft ho
                have e1 := C.f0 g0
                subst e1
                have h15 : q 15 = false := by
                  cases h : q 15
                  · rfl
                  · have h2 := (C.ph h).1; rw [hdi] at h2; cases h2
                obtain ⟨q0, q1, q2, q3⟩ := four_of (C.ob h15)
                have C := hide C
                go_wp2
                have C := C.out
                exact HK.out _ _ ⟨_, _, y2, y3, y4, y5, y6, y7, y8, y9, y10, y11, y12, y13, y14, rfl, ⟨C.b2, C.tt, C.ob, C.oc, C.rw, C.f0, (fun _ => rfl), C.f2, C.f3, C.f4, C.f5, C.f6, C.f7, C.f8, C.f9, C.f10, C.f11, C.f12, C.f13, C.f14, (fun h => ⟨or_t (C.ph h).1, or_t (C.ph h).2⟩)⟩⟩
              | 2, _ =>
                obtain rfl := (Option.some.inj ho)
                clear haft ho
                have C := hide C
                go_wp2
                have C := C.out
                exact HK.out _ _ ⟨y0, y1, _, y3, y4, y5, y6, y7, y8, y9, y10, y11, y12, y13, y14, rfl, ⟨C.b2, C.tt, C.ob, C.oc, C.rw, C.f0, C.f1, (fun _ => rfl), C.f3, C.f4, C.f5, C.f6, C.f7, C.f8, C.f9, C.f10, C.f11, C.f12, C.f13, C.f14, (fun h => ⟨or_t (C.ph h).1, or_t (C.ph h).2⟩)⟩⟩
              | 3, _ =>
                obtain rfl := (Option.some.inj ho)
                have g2 : q 2 = true := haft ⟨2, .data⟩ (by simp) rfl
                clear haft ho
                have e1 := C.f2 g2
                subst e1
                obtain ⟨q0, q1, q2, q3⟩ := four_of (HC.out.below C.b2)
                have C := hide C
                go_wp2
                have C := C.out
                exact HK.out _ _ ⟨y0, y1, _, _, y4, y5, y6, y7, y8, y9, y10, y11, y12, y13, y14, rfl, ⟨C.b2, C.tt, C.ob, C.oc, C.rw, C.f0, C.f1, C.f2, (fun _ => rfl), C.f4, C.f5, C.f6, C.f7, C.f8, C.f9, C.f10, C.f11, C.f12, C.f13, C.f14, (fun h => ⟨or_t (C.ph h).1, or_t (C.ph h).2⟩)⟩⟩
              | 4, _ =>
                obtain rfl := (Option.some.inj ho)
                clear haft ho
                have C := hide C
                go_wp2
                have C := C.out
                exact HK.out _ _ ⟨y0, y1, y2, y3, _, y5, y6, y7, y8, y9, y10, y11, y12, y13, y14, rfl, ⟨C.b2, C.tt, C.ob, C.oc, C.rw, C.f0, C.f1, C.f2, C.f3, (fun _ => rfl), C.f5, C.f6, C.f7, C.f8, C.f9, C.f10, C.f11, C.f12, C.f13, C.f14, (fun h => ⟨or_t (C.ph h).1, or_t (C.ph h).2⟩)⟩⟩
              | 5, _ =>
                obtain rfl := (Option.some.inj ho)
                clear haft ho
                have C := hide C
                go_wp2
                have C := C.out
                exact HK.out _ _ ⟨y0, y1, y2, y3, y4, _, y6, y7, y8, y9, y10, y11, y12, y13, y14, rfl, ⟨C.b2, C.tt, C.ob, C.oc, C.rw, C.f0, C.f1, C.f2, C.f3, C.f4, (fun _ => rfl), C.f6, C.f7, C.f8, C.f9, C.f10, C.f11, C.f12, C.f13, C.f14, (fun h => ⟨or_t (C.ph h).1, or_t (C.ph h).2⟩)⟩⟩
              | 6, _ =>
                obtain rfl := (Option.some.inj ho)
                have g4 : q 4 = true := haft ⟨4, .data⟩ (by simp) rfl
                have g5 : q 5 = true := haft ⟨5, .data⟩ (by simp) rfl
                clear haft ho
                have e1 := C.f4 g4
                have e2 := C.f5 g5
                subst e1 e2
                have C := hide C
                go_wp2
                have C := C.out
                exact HK.out _ _ ⟨y0, y1, y2, y3, _, _, _, y7, y8, y9, y10, y11, y12, y13, y14, rfl, ⟨C.b2, C.tt, C.ob, C.oc, C.rw, C.f0, C.f1, C.f2, C.f3, C.f4, C.f5, (fun _ => rfl), C.f7, C.f8, C.f9, C.f10, C.f11, C.f12, C.f13, C.f14, (fun h => ⟨or_t (C.ph h).1, or_t (C.ph h).2⟩)⟩⟩
              | 7, _ =>
                obtain rfl := (Option.some.inj ho)
                have g6 : q 6 = true := haft ⟨6, .data⟩ (by simp) rfl
                clear haft ho
                have e1 := C.f6 g6
                subst e1
                have c0 := HRg.out w C.b2
                have C := hide C
                go_wp2
                have C := C.out
                exact HK.out _ _ ⟨y0, y1, y2, y3, y4, y5, _, _, y8, y9, y10, y11, y12, y13, y14, rfl, ⟨C.b2, C.tt, C.ob, C.oc, C.rw, C.f0, C.f1, C.f2, C.f3, C.f4, C.f5, C.f6, (fun _ => rfl), C.f8, C.f9, C.f10, C.f11, C.f12, C.f13, C.f14, (fun h => ⟨or_t (C.ph h).1, or_t (C.ph h).2⟩)⟩⟩
              | 8, _ =>
                obtain rfl := (Option.some.inj ho)
                have g3 : q 3 = true := haft ⟨3, .data⟩ (by simp) rfl
                have g7 : q 7 = true := haft ⟨7, .data⟩ (by simp) rfl
                clear haft ho
                have e1 := C.f3 g3
                have e2 := C.f7 g7
                subst e1 e2
                have C := hide C
                go_wp2
                have C := C.out
                exact HK.out _ _ ⟨y0, y1, y2, _, y4, y5, y6, _, _, y9, y10, y11, y12, y13, y14, rfl, ⟨C.b2, C.tt, C.ob, C.oc, C.rw, C.f0, C.f1, C.f2, C.f3, C.f4, C.f5, C.f6, C.f7, (fun _ => rfl), C.f9, C.f10, C.f11, C.f12, C.f13, C.f14, (fun h => ⟨or_t (C.ph h).1, or_t (C.ph h).2⟩)⟩⟩
              | 9, _ =>
                obtain rfl := (Option.some.inj ho)
                have g8 : q 8 = true := haft ⟨8, .data⟩ (by simp) rfl
                clear haft ho
                have e1 := C.f8 g8
                subst e1
                obtain ⟨e0, e1, e2, e3, e4, e5⟩ := HIc.out w C.b2
                have C := hide C
                go_wp2
                have C := C.out
                exact HK.out _ _ ⟨y0, y1, y2, y3, y4, y5, y6, y7, _, _, y10, y11, y12, y13, y14, rfl, ⟨C.b2, C.tt, C.ob, C.oc, C.rw, C.f0, C.f1, C.f2, C.f3, C.f4, C.f5, C.f6, C.f7, C.f8, (fun _ => rfl), C.f10, C.f11, C.f12, C.f13, C.f14, (fun h => ⟨or_t (C.ph h).1, or_t (C.ph h).2⟩)⟩⟩
              | 10, _ =>
                obtain rfl := (Option.some.inj ho)
                clear haft ho
                have C := hide C
                go_wp2
                have C := C.out
                exact HK.out _ _ ⟨y0, y1, y2, y3, y4, y5, y6, y7, y8, y9, _, y11, y12, y13, y14, rfl, ⟨C.b2, C.tt, C.ob, C.oc, C.rw, C.f0, C.f1, C.f2, C.f3, C.f4, C.f5, C.f6, C.f7, C.f8, C.f9, (fun _ => rfl), C.f11, C.f12, C.f13, C.f14, (fun h => ⟨or_t (C.ph h).1, or_t (C.ph h).2⟩)⟩⟩
              | 11, _ =>
                obtain rfl := (Option.some.inj ho)
                have g9 : q 9 = true := haft ⟨9, .data⟩ (by simp) rfl
                have g10 : q 10 = true := haft ⟨10, .data⟩ (by simp) rfl
                clear haft ho
                have e1 := C.f9 g9
                have e2 := C.f10 g10
                subst e1 e2
                have HTw := hide (HTh.out w C.tt)
                have C := hide C
                go_wp2_with fail
                refine HTw.out.mono ?_
                rintro e w' ⟨rfl, hb⟩
                have HBw := hide hb
                clear hb
                go_wp2_with fail
                have C := C.out
                have hb := HBw.out
                exact HK.out _ _ ⟨y0, y1, y2, y3, y4, y5, y6, y7, y8, _, _, _, y12, y13, y14, rfl, ⟨(bel C.b2 hb), (C.tt.below hb), (fun h => (C.ob h).below hb), (fun h => (C.oc h).below hb), (fun h => Cde.own_later (C.rw h) hb), C.f0, C.f1, C.f2, C.f3, C.f4, C.f5, C.f6, C.f7, C.f8, C.f9, C.f10, (fun _ => rfl), (fun h h2 => by obtain ⟨g, e, hc⟩ := C.f12 h h2; exact ⟨g, e, hc.below hb⟩), (fun h => by obtain ⟨g, c, e, hc⟩ := C.f13 h; exact ⟨g, c, e, Cde.own_later hc hb⟩), C.f14, (fun h => ⟨or_t (C.ph h).1, or_t (C.ph h).2⟩)⟩⟩
              | 12, _ =>
                obtain rfl := (Option.some.inj ho)
                have g11 : q 11 = true := haft ⟨11, .data⟩ (by simp) rfl
                clear haft ho
                have e1 := C.f11 g11
                subst e1
                have C := hide C
                go_wp2
                have C := C.out
                have hb := bel1 w (.cells (ia nm) 44)
                exact HK.out _ _ ⟨y0, y1, y2, y3, y4, y5, y6, y7, y8, y9, y10, _, _, y13, y14, rfl, ⟨(bel C.b2 hb), (C.tt.below hb), (fun h => (C.ob h).below hb), (fun h => (C.oc h).below hb), (fun h => Cde.own_later (C.rw h) hb), C.f0, C.f1, C.f2, C.f3, C.f4, C.f5, C.f6, C.f7, C.f8, C.f9, C.f10, C.f11, (fun _ _ => ⟨_, rfl, HasC.new w 44 (ia nm)⟩), (fun h => by obtain ⟨g, c, e, hc⟩ := C.f13 h; exact ⟨g, c, e, Cde.own_later hc hb⟩), C.f14, (fun h => ⟨or_t (C.ph h).1, or_t (C.ph h).2⟩)⟩⟩
              | 13, _ =>
                obtain rfl := (Option.some.inj ho)
                have g1 : q 1 = true := haft ⟨1, .data⟩ (by simp) rfl
                have g12 : q 12 = true := haft ⟨12, .data⟩ (by simp) rfl
                clear haft ho
                have e1 := C.f1 g1
                obtain ⟨g, e2, hc⟩ := C.f12 g12 hdi
                subst e1 e2
                have hO := C.rw hdi
                refine ins_list rfl (.tmp 54) (.tmp 65) rfl rfl hO C.b2.size g nm rfl hc (by rw [HMl.out]; omega) ?_
                intro gg c w' hown hgr
                have hb : Below V2.heap.size V2 w' := C.b2.grown hgr C.b2.size fun k hk => (Cde.owns_block hO k hk).1
                exact HK.out _ _ ⟨y0, _, y2, y3, y4, y5, y6, y7, y8, y9, y10, y11, _, _, y14, rfl, ⟨hb, (own_grow hO hgr C.tt (by decide)), (fun h => own_grow hO hgr (C.ob h) (by decide)), (fun h => by have h2 := (C.ph h).2; rw [hdi] at h2; cases h2), (fun h => by cases h), C.f0, C.f1, C.f2, C.f3, C.f4, C.f5, C.f6, C.f7, C.f8, C.f9, C.f10, C.f11, (fun _ h => by cases h), (fun _ => ⟨_, _, rfl, hown⟩), C.f14, (fun h => ⟨or_t (C.ph h).1, or_t (C.ph h).2⟩)⟩⟩
              | 14, _ =>
                obtain rfl := (Option.some.inj ho)
                clear haft ho
                have C := hide C
                go_wp2
                have C := C.out
                exact HK.out _ _ ⟨y0, y1, y2, y3, y4, y5, y6, y7, y8, y9, y10, y11, y12, y13, _, rfl, ⟨C.b2, C.tt, C.ob, C.oc, C.rw, C.f0, C.f1, C.f2, C.f3, C.f4, C.f5, C.f6, C.f7, C.f8, C.f9, C.f10, C.f11, C.f12, C.f13, (fun _ => rfl), (fun h => ⟨or_t (C.ph h).1, or_t (C.ph h).2⟩)⟩⟩
              | 15, _ =>
                obtain rfl := (Option.some.inj ho)
                have g14 : q 14 = true := haft ⟨14, .data⟩ (by simp) rfl
                have g13 : q 13 = true := haft ⟨13, .data⟩ (by simp) rfl
                have g1 : q 1 = true := haft ⟨1, .phase⟩ (by simp) rfl
                clear haft ho
                have e1 := C.f14 g14
                obtain ⟨g, c, e2, hO⟩ := C.f13 g13
                subst e1 e2
                obtain ⟨q0, q1, q2, q3⟩ := four_of (C.ob hdi)
                have s2 := (C.ob hdi).frozen 2
                have C := hide C
                go_wp2
                have C := C.out
                have h4 := (C.ob hdi).set 2 (.slice (some ⟨g, 0, none⟩) (M.length + 1) c)
                have hO2 := ownsRow_setCell_other hO (a := ⟨gb, 2, none⟩) (own_ne hO (C.ob hdi) (by decide)) (.slice (some ⟨g, 0, none⟩) (M.length + 1) c)
                have hb := C.b2.setCell (p := ⟨gb, 2, none⟩) (by simpa using HGb.out) (.slice (some ⟨g, 0, none⟩) (M.length + 1) c)
                exact HK.out _ _ ⟨y0, y1, y2, y3, y4, y5, y6, y7, y8, y9, y10, y11, y12, _, _, rfl, ⟨hb, (C.tt.other (p := ⟨gb, 2, none⟩) (by simpa using HNe.out) _), (fun h => by cases h), (fun _ => h4), (fun h => by have h2 : q 13 = false := h; rw [g13] at h2; cases h2), C.f0, C.f1, C.f2, C.f3, C.f4, C.f5, C.f6, C.f7, C.f8, C.f9, C.f10, C.f11, (fun _ h => by have h2 : q 13 = false := h; rw [g13] at h2; cases h2), (fun _ => ⟨g, c, rfl, hO2⟩), C.f14, (fun _ => ⟨or_t g1, or_t g13⟩)⟩⟩
            rintro q A V7 ⟨y0, y1, y2, y3, y4, y5, y6, y7, y8, y9, y10, y11, y12, y13, y14, rfl, C⟩ hall
            simp only [List.setIfInBounds_toArray, List.set_cons_succ, List.set_cons_zero]
            have D : ∀ i, i < 16 → q i = true := hall
            obtain ⟨g, c, e13, hO⟩ := C.f13 (D 13 (by omega))
            have hX := C.oc (D 15 (by omega))
            subst e13
            rw [← HPs.out, HMl.out] at hO
            rw [HMl.out] at hX
            have HX7 := hide hX
            have HO7 := hide hO
            have HG7 := hide C.tt
            have HB7 := hide C.b2
            clear hX hO D hall C HX HO HG HB
            go_wp2_with fail
            go_roundw
            case rel => exact ⟨j + 1, _, _, by omega, by go_num, HX7, HO7, hide (by first | exact HG7.out | (rw [hTT]; exact HG7.out)), HB7⟩
            case measure => (simp [intOf]; try omega)
          · obtain rfl : j = k := by omega
            have hpf := prK_full L (o : Int)
            rw [HRl.out] at hpf
            rw [hpf] at HO
            have HPl := hide (show (prN L (o : Int)).length = j by rw [prN_len, HRl.out])
            rw [HPl.out] at HO
            have HF9 := hide (HF2.out.below HB.out)
            have HO9 := hide (Cde.own_mono HO.out (show W.heap.size ≤ V2.heap.size from HF2.out.lo.size))
            have hq := own_ne HO9.out HF9.out.r (by decide)
            obtain ⟨x0, x1, x2, x3⟩ := four_of HX.out
            obtain ⟨p0, p1, p2, p3⟩ := four_of HF9.out.r
            obtain ⟨r0, r1, r2, r3⟩ := four_fr HF9.out.r
            obtain ⟨V9, hV9⟩ : ∃ V9, (((V.setCell ⟨W.heap.size + 1, 0, none⟩ (.int .i64 f)).setCell ⟨W.heap.size + 1, 1, none⟩ (.int .i64 d)).setCell ⟨W.heap.size + 1, 2, none⟩ (.slice am j cm)).setCell ⟨W.heap.size + 1, 3, none⟩ (.int .i64 z) = V9 := ⟨_, rfl⟩
            have HO5 := hide (s4_own HO9.out hq (.int .i64 f) (.int .i64 d) (.slice am j cm) (.int .i64 z))
            have HF5 := hide (put4 HF9.out.r HF9.out.lo (.int .i64 f) (.int .i64 d) (.slice am j cm) (.int .i64 z))
            unfold s4 at HO5 HF5
            rw [hV9] at HO5 HF5
            clear hpf hq
            go_wp2_with fail
            obtain ⟨q0, q1, q2, q3⟩ := four_of HF5.out.1
            exact bodyPost_ret (v := .tuple #[.agg (cd f d am j cm z), .int .i64 0]) (by simp [results, Tryz.results6, go_sem, q0, q1, q2, q3]) rfl (FoP.row h0' rfl HPo.out HPl.out HO5.out HF5.out.2)
  · have hr : (er != 0) = true := by simpa using h0
    go_upto_region 3 with fail
    obtain ⟨V2, hV2⟩ : ∃ V2, V1.alloc (.cells #[.slice ga vm gc, .int .i64 co, .int .i64 0] 47) = V2 := ⟨_, rfl⟩
    rw [hV2] at HF1 ⊢
    clear hV2
    obtain ⟨p0, p1, p2, p3⟩ := four_of HF1.out.r
    obtain ⟨r0, r1, r2, r3⟩ := four_fr HF1.out.r
    obtain ⟨V3, hV3⟩ : ∃ V3, (((V2.setCell ⟨W.heap.size + 1, 0, none⟩ (.int .i64 0)).setCell ⟨W.heap.size + 1, 1, none⟩ (.int .i64 0)).setCell ⟨W.heap.size + 1, 2, none⟩ (.slice none 0 0)).setCell ⟨W.heap.size + 1, 3, none⟩ (.int .i64 0) = V3 := ⟨_, rfl⟩
    have HF2 := hide (put4 HF1.out.r HF1.out.lo (.int .i64 0) (.int .i64 0) (.slice none 0 0) (.int .i64 0))
    unfold s4 at HF2
    rw [hV3] at HF2
    go_wp2_with fail
    obtain ⟨q0, q1, q2, q3⟩ := four_of HF2.out.1
    exact bodyPost_ret (v := .tuple #[.agg cdz, .int .i64 er]) (by simp [results, Tryz.results6, go_sem, q0, q1, q2, q3]) rfl (FoP.no HEr.out h0 HF2.out.2)

end Go.Proofs.Prn
