/-
  EvalLooks' walk.
-/
import Derived.Test.YtimdcmponhcngaaGreatZLk
namespace Go.Proofs.YtimdcmponhcngaaGreat
open Go.RowKit Go.IntWalk Lx Pz
set_option linter.unusedVariables false

theorem tx_nil (W : World) : Tx W none 0 0 [] := ⟨rfl, Nat.le_refl _, Nat.zero_le _, .inl rfl⟩
theorem iz_nil (W : World) : Iz W none 0 0 [] := ⟨rfl, Nat.le_refl _, Nat.zero_le _, .inl rfl⟩
theorem nz_one {W : World} {b : Nat} {n : Nd} (h : HasC W b 69 (ndA n)) : Nz W (some ⟨b, 0, none⟩) 1 1 [n] := by
  refine ⟨rfl, Nat.le_refl _, by unfold maxLen; omega, .inr ⟨b, 0, rfl, h.lt, fun i hi j v hj => ?_⟩⟩
  obtain rfl : i = 0 := by omega
  have := h.cell j (v := v) (by simpa [nd9, ndA] using hj)
  simpa using this

abbrev nmC : Array Value := #[.string ⟨#[120]⟩, .string ⟨#[121]⟩, .string ⟨#[99]⟩, .string ⟨#[108, 111]⟩, .string ⟨#[104, 105]⟩, .string ⟨#[109, 105, 100]⟩]
abbrev wnC (f d : Int) (v : Wd) : Array Value := #[.int .i64 v.x, .int .i64 v.y, .int .i64 v.c, .int .i64 (Knd.lowZ f d), .int .i64 (Knd.highZ f d), .int .i64 (Knd.borderZ f d)]
theorem nmC_at : ∀ k, k < 6 → nmC[k]? = some (.string (sB (inW.getD k [])))
  | 0, _ => rfl
  | 1, _ => rfl
  | 2, _ => rfl
  | 3, _ => rfl
  | 4, _ => rfl
  | 5, _ => rfl
  | k + 6, h => by omega
theorem wnC_at (f d : Int) (v : Wd) : ∀ k, k < 6 → (wnC f d v)[k]? = some (.int .i64 (inpV f d v (k : Int)))
  | 0, _ => rfl
  | 1, _ => rfl
  | 2, _ => rfl
  | 3, _ => rfl
  | 4, _ => rfl
  | 5, _ => rfl
  | k + 6, h => by omega
/-- The law's boxes and the words. -/
structure Lq (W V : World) (g : Nat) (f d : Int) (v : Wd) (pa : Option Addr) (pl pc : Nat) : Prop where
  k : HasC V W.heap.size 23 (kdA f d)
  w : HasC V (W.heap.size + 1) 30 (wdA v pa pl pc)
  n : HasC V g 9 nmC
  lo : Below W.heap.size W V
theorem Lq.below {W V V' : World} {g : Nat} {f d : Int} {v : Wd} {pa : Option Addr} {pl pc : Nat} (h : Lq W V g f d v pa pl pc) (hb : Below V.heap.size V V') : Lq W V' g f d v pa pl pc :=
  ⟨h.k.below hb, h.w.below hb, h.n.below hb, bel h.lo hb⟩
theorem Lq.five {W V : World} {g : Nat} {f d : Int} {v : Wd} {pa : Option Addr} {pl pc : Nat} (h : Lq W V g f d v pa pl pc) : V.cell? ⟨W.heap.size, 0, none⟩ = some (.int .i64 f) ∧ V.cell? ⟨W.heap.size, 1, none⟩ = some (.int .i64 d) ∧ V.cell? ⟨W.heap.size + 1, 0, none⟩ = some (.int .i64 v.x) ∧ V.cell? ⟨W.heap.size + 1, 1, none⟩ = some (.int .i64 v.y) ∧ V.cell? ⟨W.heap.size + 1, 2, none⟩ = some (.int .i64 v.c) :=
  ⟨h.k.cell 0 rfl, h.k.cell 1 rfl, h.w.cell 0 rfl, h.w.cell 1 rfl, h.w.cell 2 rfl⟩

set_option maxRecDepth 100000 in
set_option maxHeartbeats 8000000 in
theorem looks_walk (f d n : Int) (v : Wd) (pa : Option Addr) (pl pc : Nat) (W : World) (hP : Knd.Ints W pa pl pc v.ps) :
    Calls Tryz.prog 6 #[.agg (kdA f d), .int .i64 n, .agg (wdA v pa pl pc)] W fun e w' => e = .returned (.bool true) ∧ Below W.heap.size W w' := by
  have HA := hide fun V => vawake_any V
  have hb1 := bel1 W (.cells (kdA f d) 23)
  have HB0 := hide (bel hb1 (bel1 (W.alloc (.cells (kdA f d) 23)) (.cells (wdA v pa pl pc) 30)))
  have HK0 := hide ((HasC.new W 23 (kdA f d)).alloc (.cells (wdA v pa pl pc) 30))
  have HW0 : Hid (HasC ((W.alloc (.cells (kdA f d) 23)).alloc (.cells (wdA v pa pl pc) 30)) (W.heap.size + 1) 30 (wdA v pa pl pc)) := by
    have := HasC.new (W.alloc (.cells (kdA f d) 23)) 30 (wdA v pa pl pc)
    simp only [World.size_alloc] at this
    exact hide this
  have HPI := hide hP
  have hpl := hP.len
  have hpm : pl ≤ 9223372036854775807 := by have := hP.le; have := hP.max; unfold maxLen at *; omega
  have HAt := hide fun w => Knd.at_any f d n w
  unfold Knd.atV at HAt
  have HF := hide fun w h => Knd.fits_any f d v.x v.y v.c pa pl pc v.ps w h
  clear hb1 hP
  obtain ⟨p, hp⟩ : ∃ p, (Knd.atZ f d n).getD Knd.zp = p := ⟨_, rfl⟩
  obtain ⟨ok, hok⟩ : ∃ ok, (Knd.atZ f d n).isSome = ok := ⟨_, rfl⟩
  rw [hp, hok] at HAt
  unfold Knd.pcells at HAt
  obtain ⟨R, hR⟩ : ∃ R, evV f d v [] [] [plN p] 0 = R := ⟨_, rfl⟩
  obtain ⟨E, hE⟩ : ∃ E, evE f d v [] [] [plN p] 0 = E := ⟨_, rfl⟩
  have HEv := hide fun (V : World) (b : Nat) (h1 : Below W.heap.size W V) (h2 : HasC V b 69 (ndA (plN p))) =>
    veval_any f d v (root := 0) (tx_nil V) (iz_nil V) (nz_one h2) (by simp) (HPI.out.later h1)
  rw [hR, hE] at HEv
  obtain ⟨k0, k1, -, -⟩ := two_of HK0.out
  go_enter Tryz.func6, Tryz.ntmps6
  go_wp2_with fail
  refine (HAt.out _).mono ?_
  rintro e V1 ⟨rfl, hb⟩
  have HK1 := hide (HK0.out.below hb)
  have HW1 := hide (HW0.out.below hb)
  have HB1 := hide (bel HB0.out hb)
  obtain ⟨k2, k3, -, -⟩ := two_of HK1.out
  obtain ⟨w0, w1, w2, w3⟩ := four_of HW1.out
  have z0 := HK1.out.lt
  have z1 := HW1.out.lt
  clear hb HK0 HW0 HB0 k0 k1
  have hb2 := bel1 V1 (.cells #[.int .i64 p.back, .int .i64 p.coords, .int .i64 p.x, .int .i64 p.y] 65)
  have hb3 := bel hb2 (bel1 (V1.alloc (.cells #[.int .i64 p.back, .int .i64 p.coords, .int .i64 p.x, .int .i64 p.y] 65)) (.cells (ndA (plN p)) 69))
  have hb4 := bel hb3 (bel1 ((V1.alloc (.cells #[.int .i64 p.back, .int .i64 p.coords, .int .i64 p.x, .int .i64 p.y] 65)).alloc (.cells (ndA (plN p)) 69)) (.cells (tr4 (.slice none 0 0) (.slice none 0 0) (.slice (some ⟨V1.heap.size + 1, 0, none⟩) 1 1) (.int .i64 0)) 28))
  have HN : Hid (HasC (((V1.alloc (.cells #[.int .i64 p.back, .int .i64 p.coords, .int .i64 p.x, .int .i64 p.y] 65)).alloc (.cells (ndA (plN p)) 69)).alloc (.cells (tr4 (.slice none 0 0) (.slice none 0 0) (.slice (some ⟨V1.heap.size + 1, 0, none⟩) 1 1) (.int .i64 0)) 28)) (V1.heap.size + 1) 69 (ndA (plN p))) := by
    have := (HasC.new (V1.alloc (.cells #[.int .i64 p.back, .int .i64 p.coords, .int .i64 p.x, .int .i64 p.y] 65)) 69 (ndA (plN p))).alloc (.cells (tr4 (.slice none 0 0) (.slice none 0 0) (.slice (some ⟨V1.heap.size + 1, 0, none⟩) 1 1) (.int .i64 0)) 28)
    simp only [World.size_alloc] at this
    exact hide this
  have HEv2 := hide (HEv.out _ _ (bel HB1.out hb4) HN.out)
  have HK2 := hide (HK1.out.below hb4)
  have HW2 := hide (HW1.out.below hb4)
  have HB2 := hide (bel HB1.out hb4)
  have y0 : W.heap.size < V1.heap.size + 1 := by omega
  have y1 : W.heap.size < V1.heap.size + 1 + 1 := by omega
  have y2 : W.heap.size + 1 < V1.heap.size + 1 := by omega
  have y3 : W.heap.size + 1 < V1.heap.size + 1 + 1 := by omega
  clear hb2 hb3 hb4 HN HEv HAt
  go_wp2_with fail
  refine HEv2.out.mono ?_
  rintro e V2 ⟨rfl, hb⟩
  have HK3 := hide (HK2.out.below hb)
  have HW3 := hide (HW2.out.below hb)
  have HB3 := hide (bel HB2.out hb)
  clear hb HK1 HW1 HB1 HK2 HW2 HB2 HEv2 k2 k3 w0 w1 w2 w3 z0 z1 y0 y1 y2 y3
  go_wp2_with fail
  refine (HA.out _).mono ?_
  rintro e V3 ⟨rfl, hb⟩
  have HK4 := hide (HK3.out.below hb)
  have HW4 := hide (HW3.out.below hb)
  have HB4 := hide (bel HB3.out hb)
  obtain ⟨k2, k3, -, -⟩ := two_of HK4.out
  obtain ⟨w0, w1, w2, w3⟩ := four_of HW4.out
  clear hb HK3 HW3 HB3
  go_wp2_with fail
  refine (HF.out _ (HPI.out.later HB4.out)).mono ?_
  rintro e V4 ⟨rfl, hb⟩
  have HB5 := hide (bel HB4.out hb)
  have HK5 := hide (HK4.out.below hb)
  have HW5 := hide (HW4.out.below hb)
  clear hb HK4 HW4 HB4 k2 k3 w0 w1 w2 w3
  by_cases hgood : Fits f d v ∧ (Knd.atZ f d n).isSome = true
  · obtain ⟨hF, hs⟩ := hgood
    obtain ⟨n0', n1, n2, n3⟩ := look_ok hF hs
    rw [hp] at n2 n3
    rw [hE] at n2
    rw [hR] at n3
    rw [hs] at hok
    subst hok n2
    obtain ⟨q, rfl⟩ : ∃ q : Nat, n = q := ⟨n.toNat, by omega⟩
    simp only [Int.toNat_natCast] at n1 n3
    have h0 : Knd.fitE f d v.x v.y v.c v.ps = 0 := by
      rcases fitE_cases f d v with ⟨-, h⟩ | ⟨h, -⟩
      · exact h
      · exact absurd hF h
    rw [h0]
    have HRun := hide fun (k : Nat) (hk : k < 6) (V : World) (h : Below W.heap.size W V) => by
      have h1 := run_dec f d v (s := sB (inW.getD k [])) (by rw [bs_sB]; exact in_ak ⟨k, hk⟩) (in_len ⟨k, hk⟩) (in_gp ⟨k, hk⟩) (HPI.out.later h)
      obtain ⟨a1, a2⟩ := look_in (k := (k : Int)) hF (by omega) (by omega)
      rw [show (((⟨k, hk⟩ : Fin 6).val : Nat) : Int) = (k : Int) from rfl, a1, a2] at h1
      exact h1
    clear hF hs h0 hp hR hE
    rw [hpl] at n1
    obtain ⟨b, off, rfl, -, hc⟩ := (HPI.out.later HB5.out).at (by omega)
    have c0 := hc q n1
    rw [← n3] at c0
    clear hc n3
    obtain ⟨k2, k3, -, -⟩ := two_of HK5.out
    obtain ⟨w0, w1, w2, w3⟩ := four_of HW5.out
    have z0 := HK5.out.lt
    have z1 := HW5.out.lt
    have i0 : (0 : Int) ≤ q := by omega
    have i1 : (q : Int) < pl := by omega
    go_wp2_with fail
    obtain ⟨V5, hV5⟩ : ∃ V5, V4.alloc (.cells nmC 9) = V5 := ⟨_, rfl⟩
    have hb5 := bel1 V4 (.cells nmC 9)
    have HNm := HasC.new V4 9 nmC
    rw [hV5] at hb5 HNm ⊢
    have HK6 := HK5.out.below hb5
    have HW6 := HW5.out.below hb5
    have HB6 := bel HB5.out hb5
    clear hb5 hV5 HK5 HW5 HB5 k2 k3 w0 w1 w2 w3 z0 z1 i0 i1 c0 n0' n1
    generalize V4.heap.size = gn at *
    have HX0 : Hid (Lq W V5 gn f d v (some ⟨b, off, none⟩) pl pc) := ⟨HK6, HW6, HNm, HB6⟩
    clear HK6 HW6 HNm HB6
    have HLo := hide fun w => Knd.low_any f d w
    have HHi := hide fun w => Knd.high_any f d w
    have HBo := hide fun w => Knd.border_any f d w
    have HXd := hide (HX0.out.below (below_drew _))
    obtain ⟨a0, a1, a2, a3, a4⟩ := HX0.out.five
    go_region_held3 (fun w' => w'.cell? ⟨W.heap.size, 0, none⟩ = some (.int .i64 f) ∧ w'.cell? ⟨W.heap.size, 1, none⟩ = some (.int .i64 d) ∧ w'.cell? ⟨W.heap.size + 1, 0, none⟩ = some (.int .i64 v.x) ∧ w'.cell? ⟨W.heap.size + 1, 1, none⟩ = some (.int .i64 v.y) ∧ w'.cell? ⟨W.heap.size + 1, 2, none⟩ = some (.int .i64 v.c))
      (first | exact ⟨a0, a1, a2, a3, a4⟩ | exact HX6.out.five | exact HX7.out.five | exact HX8.out.five | go_keep)
      ((first
        | (go_at_call 27; refine (HLo.out _).mono ?_; rintro e w3 ⟨rfl, hb3⟩; have HX6 := hide (HXd.out.below hb3); clear hb3)
        | (go_at_call 28; refine (HHi.out _).mono ?_; rintro e w4 ⟨rfl, hb4⟩; have HX7 := hide (HX6.out.below hb4); clear hb4)
        | (go_at_call 29; refine (HBo.out _).mono ?_; rintro e w5 ⟨rfl, hb5⟩; have HX8 := hide (HX7.out.below hb5); clear hb5)))
    all_goals
      obtain ⟨V6, hV6⟩ : ∃ V6, w5.alloc (.cells (wnC f d v) 3) = V6 := ⟨_, rfl⟩
      have hb6 := bel1 w5 (.cells (wnC f d v) 3)
      have HWn := HasC.new w5 3 (wnC f d v)
      rw [hV6] at hb6 HWn ⊢
      have HX9 := hide (HX8.out.below hb6)
      have HWn9 := hide HWn
      clear hb6 hV6 HWn HX0 HXd HX6 HX7 HX8 a0 a1 a2 a3 a4 HLo HHi HBo HA HF HPI hpl
      generalize w5.heap.size = gw at *
      go_wp2_with fail
      go_loopw [14] (fun i wr => ∃ k : Nat, k ≤ 6 ∧ i = .int .i64 k ∧ Hid (Lq W wr gn f d v (some ⟨b, off, none⟩) pl pc) ∧ Hid (HasC wr gw 3 (wnC f d v))) (fun i _ => 6 - (intOf i).toNat)
      case atStart => exact ⟨0, by omega, rfl, HX9, HWn9⟩
      case round =>
        obtain ⟨k, hk, rfl, HX, HWw⟩ := hrel
        rename World => V
        clear HX9 HWn9
        by_cases hlt : k < 6
        · have cn := HX.out.n.cell k (nmC_at k hlt)
          have HR := hide (HRun.out k hlt)
          have HWk := hide (wnC_at f d v k hlt)
          generalize sB (inW.getD k []) = s at *
          generalize inpV f d v (k : Int) = z at *
          obtain ⟨k0, k1, -, -⟩ := two_of HX.out.k
          obtain ⟨w0, w1, w2, w3⟩ := four_of HX.out.w
          have j0 : (0 : Int) ≤ k := by omega
          have j1 : (k : Int) < 6 := by omega
          have HXd := hide (HX.out.below (below_drew _))
          have HWd := hide (HWw.out.below (below_drew _))
          go_wp2_with fail
          go_region_held3 (fun w' => w'.cell? ⟨W.heap.size, 0, none⟩ = some (.int .i64 f) ∧ w'.cell? ⟨W.heap.size, 1, none⟩ = some (.int .i64 d) ∧ w'.cell? ⟨W.heap.size + 1, 0, none⟩ = some (.int .i64 v.x) ∧ w'.cell? ⟨W.heap.size + 1, 1, none⟩ = some (.int .i64 v.y) ∧ w'.cell? ⟨W.heap.size + 1, 2, none⟩ = some (.int .i64 v.c) ∧ w'.cell? ⟨W.heap.size + 1, 3, none⟩ = some (.slice (some ⟨b, off, none⟩) pl pc) ∧ w'.cell? ⟨gn, k, none⟩ = some (.string s))
            (first | exact ⟨k0, k1, w0, w1, w2, w3, cn⟩ | exact ⟨HX3.out.k.cell 0 rfl, HX3.out.k.cell 1 rfl, HX3.out.w.cell 0 rfl, HX3.out.w.cell 1 rfl, HX3.out.w.cell 2 rfl, HX3.out.w.cell 3 rfl, cn3⟩ | go_keep)
            ((first
              | (go_at_call 24; refine (HR.out _ HXd.out.lo).mono ?_; rintro e w3' ⟨rfl, hb3⟩; have HX3 := hide (HXd.out.below hb3); have HW3 := hide (HWd.out.below hb3); have cn3 := (hb3.cell (p := ⟨gn, k, none⟩) HXd.out.n.lt).trans cn; clear hb3)))
          all_goals
            have cw := HW3.out.cell k HWk.out
            clear k0 k1 w0 w1 w2 w3 cn cn3 HXd HWd HX HWw HR
            go_wp2_with fail
            go_roundw
            case rel => exact ⟨k + 1, by omega, by go_num, HX3, HW3⟩
            case measure => simp [intOf]; omega
        · obtain rfl : k = 6 := by omega
          go_wp2_with fail
          go_ret
          exact ⟨rfl, HX.out.lo⟩
  · have hbad := look_bad hgood
    rw [hp, hR, hE] at hbad
    obtain ⟨hE0, rfl⟩ := hbad
    have h1 : (E != 0) = true := by simpa using hE0
    clear hE0 hR hE
    rcases fitE_cases f d v with ⟨hF, h0⟩ | ⟨hF, h2⟩
    · rw [h0]
      obtain rfl : ok = false := by
        rw [← hok]
        cases hq : (Knd.atZ f d n).isSome with
        | false => rfl
        | true => exact absurd ⟨hF, hq⟩ hgood
      clear h0 hF hgood hok
      go_wp2_with fail
      refine (HA.out _).mono ?_
      rintro e V5 ⟨rfl, hb⟩
      go_wp2_with fail
      go_ret
      exact ⟨rfl, bel HB5.out hb⟩
    · rw [h2]
      clear h2 hF hgood hok
      go_wp2_with fail
      refine (HA.out _).mono ?_
      rintro e V5 ⟨rfl, hb⟩
      go_wp2_with fail
      go_ret
      exact ⟨rfl, bel HB5.out hb⟩

end Go.Proofs.YtimdcmponhcngaaGreat
