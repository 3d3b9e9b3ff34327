/-
  The walk of ParseJoins.
-/
import Derived.Test.YtamekjocchekoaaGr46
import Derived.Test.YtamekjocchekoaaQsm
import Derived.Test.YtamekjocchekoaaNamesW
import Derived.Deep.CutRange
namespace Go.Proofs.Ytamekjocchekoaa
open Go.RowKit Go.IntWalk Lx Pz
set_option linter.unusedVariables false

/-- Parse, where the program is known. -/
theorem parse_of {s : ByteArray} {A : List Tk} {NM : List Txt} {es : List E} {ex : E} (ha : ak (bs s) = some A) (hl : s.size ≤ 1024) (hg : GP [] [] A (NM, es, ex)) (w : World) :
    Calls Try.prog 9 #[.string s] w fun e W' => ∃ na nc ba bc da dc,
      e = .returned (.tuple #[.agg (tr4 (.slice na es.length nc) (.slice ba es.length bc) (.slice da (szL es + ex.size) dc) (.int .i64 (((szL es + ex.size : Nat) : Int) - 1))), .int .i64 0]) ∧ Tx W' na es.length nc NM ∧ Iz W' ba es.length bc (bdL es 0) ∧
      Nz W' da (szL es + ex.size) dc (flL es 0 ++ ex.flat (szL es)) ∧ Below w.heap.size w W' := by
  obtain ⟨T0, hT0, hab⟩ := tks_ak ha (by rw [bs_len]; exact hl)
  refine (parse_read s w).mono ?_
  rintro e W1 (⟨-, -, hbad⟩ | ⟨T, NM', es', ex', na, nc, ba, bc, da, dc, hT, hA, h3, h4, rfl, h6, h7, h8, h9⟩)
  · exfalso
    rw [hT0] at hbad
    rcases hbad with h | ⟨T, h, h2⟩
    · cases h
    · cases h
      rw [hab] at h2
      have := (h2 _).2 hg
      cases this
  · rw [hT0] at hT
    cases hT
    rw [hab] at hA
    have := (hA _).2 hg
    cases this
    exact ⟨na, nc, ba, bc, da, dc, rfl, h6, h7, h8, h9⟩

abbrev mkC : Array Value := #[.string ⟨#[124]⟩, .string ⟨#[94]⟩, .string ⟨#[38]⟩, .string ⟨#[60]⟩, .string ⟨#[60, 61]⟩, .string ⟨#[62]⟩, .string ⟨#[62, 61]⟩, .string ⟨#[61, 61]⟩, .string ⟨#[33, 61]⟩, .string ⟨#[60, 60]⟩, .string ⟨#[62, 62]⟩, .string ⟨#[43]⟩, .string ⟨#[45]⟩, .string ⟨#[42]⟩, .string ⟨#[47]⟩, .string ⟨#[37]⟩]
abbrev opC : Array Value := #[.int .i64 16, .int .i64 17, .int .i64 15, .int .i64 18, .int .i64 19, .int .i64 20, .int .i64 21, .int .i64 22, .int .i64 23, .int .i64 13, .int .i64 14, .int .i64 8, .int .i64 9, .int .i64 10, .int .i64 11, .int .i64 12]
theorem mkC_at {k : Nat} (h : k < 16) : mkC[k]? = some (.string (sB (row k).2.1)) := by
  rcases (show k = 0 ∨ k = 1 ∨ k = 2 ∨ k = 3 ∨ k = 4 ∨ k = 5 ∨ k = 6 ∨ k = 7 ∨ k = 8 ∨ k = 9 ∨ k = 10 ∨ k = 11 ∨ k = 12 ∨ k = 13 ∨ k = 14 ∨ k = 15 by omega) with rfl | rfl | rfl | rfl | rfl | rfl | rfl | rfl | rfl | rfl | rfl | rfl | rfl | rfl | rfl | rfl <;> rfl
theorem opC_at {k : Nat} (h : k < 16) : opC[k]? = some (.int .i64 (row k).2.2) := by
  rcases (show k = 0 ∨ k = 1 ∨ k = 2 ∨ k = 3 ∨ k = 4 ∨ k = 5 ∨ k = 6 ∨ k = 7 ∨ k = 8 ∨ k = 9 ∨ k = 10 ∨ k = 11 ∨ k = 12 ∨ k = 13 ∨ k = 14 ∨ k = 15 by omega) with rfl | rfl | rfl | rfl | rfl | rfl | rfl | rfl | rfl | rfl | rfl | rfl | rfl | rfl | rfl | rfl <;> rfl

/-- A node's cells, in the midst of a row. -/
abbrev at9 (W : World) (g o : Nat) (n : Nd) : Prop := W.cell? ⟨g, o, none⟩ = some (.int .i64 n.op) ∧ W.cell? ⟨g, o + 1, none⟩ = some (.int .i64 n.a) ∧ W.cell? ⟨g, o + 2, none⟩ = some (.int .i64 n.b) ∧ W.cell? ⟨g, o + 3, none⟩ = some (.int .i64 n.c) ∧ W.cell? ⟨g, o + 4, none⟩ = some (.int .i64 n.k) ∧ W.cell? ⟨g, o + 5, none⟩ = some (.int .i64 n.back) ∧ W.cell? ⟨g, o + 6, none⟩ = some (.int .i64 n.co) ∧ W.cell? ⟨g, o + 7, none⟩ = some (.int .i64 n.x) ∧ W.cell? ⟨g, o + 8, none⟩ = some (.int .i64 n.y)
theorem Nz.at {W : World} {a : Option Addr} {n cap : Nat} {L : List Nd} (h : Nz W a n cap L) (h0 : 0 < n) : ∃ g off, a = some ⟨g, off, none⟩ ∧ ∀ i, i < n → at9 W g (off + i * 9) (L.getD i n0) := by
  rcases h.cell with h | ⟨g, off, ha, -, hc⟩
  · omega
  · exact ⟨g, off, ha, fun i hi => ⟨hc i hi 0 _ rfl, hc i hi 1 _ rfl, hc i hi 2 _ rfl, hc i hi 3 _ rfl, hc i hi 4 _ rfl, hc i hi 5 _ rfl, hc i hi 6 _ rfl, hc i hi 7 _ rfl, hc i hi 8 _ rfl⟩⟩
theorem tks_len {l : List UInt8} {T : List Tok} (h : tks l = some T) : T.length ≤ 1024 := by
  obtain ⟨h1, h2⟩ := tks_cov h
  have := cov_len T _ 0 h1
  omega
theorem flat_bin (o : Int) (a b : E) : (∀ i, i < a.size → ((E.bin o a b).flat 0).getD i n0 = (a.flat 0).getD i n0) ∧ ((E.bin o a b).flat 0).getD (a.size + b.size) n0 = ⟨o, (a.size : Int) - 1, (a.size : Int) + (b.size : Int) - 1, 0, 0, 0, 0, 0, 0⟩ := by
  constructor
  · intro i hi
    simp only [E.flat, List.getD_eq_getElem?_getD, List.append_assoc]
    rw [List.getElem?_append_left (by rw [E.flat_len]; exact hi)]
  · simp only [E.flat, List.getD_eq_getElem?_getD]
    rw [List.getElem?_append_right (by simp [E.flat_len])]
    simp [E.flat_len]
theorem flat_un (o : Int) (a : E) : (∀ i, i < a.size → ((E.un o a).flat 0).getD i n0 = (a.flat 0).getD i n0) ∧ ((E.un o a).flat 0).getD a.size n0 = ⟨o, (a.size : Int) - 1, 0, 0, 0, 0, 0, 0, 0⟩ := by
  constructor
  · intro i hi
    simp only [E.flat, List.getD_eq_getElem?_getD]
    rw [List.getElem?_append_left (by rw [E.flat_len]; exact hi)]
  · simp only [E.flat, List.getD_eq_getElem?_getD]
    rw [List.getElem?_append_right (by rw [E.flat_len]; omega)]
    simp [E.flat_len]

set_option maxRecDepth 100000 in
set_option maxHeartbeats 4000000 in
theorem joins_walk0 (a b : ByteArray) (k0 : Int) (w : World) (hk0 : 0 ≤ k0 ∧ k0 ≤ 255) (ha : a.size ≤ 140737488355328) (hb : b.size ≤ 140737488355328) :
    Calls Try.prog 8 #[.string a, .string b, .int .u8 k0] w fun e w' => e = .returned (.bool true) ∧ Below w.heap.size w w' := by
  obtain ⟨k00, k01⟩ := hk0
  go_enter Try.func8, Try.ntmps8
  go_wp2_with fail
  refine (parse_read _ _).mono ?_
  rintro e W1 (⟨rfl, hb1, -⟩ | ⟨T, NM, es, ex, na, nc, ba, bc, da, dc, hT, hA, hl, hz, rfl, hx, -, hn, hb1⟩)
  · have HB := hide hb1
    clear hb1
    go_wp2_with fail
    refine (parse_read _ _).mono ?_
    rintro e W2 (⟨rfl, hb1, -⟩ | ⟨T, NM, es, ex, na, nc, ba, bc, da, dc, -, -, -, -, rfl, -, -, -, hb1⟩)
    all_goals
      have HB2 := hide (bel (bel HB.out (bel1 _ _)) hb1)
      clear hb1 HB
      go_wp2_with fail
      refine (awake_any _).mono ?_
      rintro e W3 ⟨rfl, hb1⟩
      have HB3 := hide (bel (bel HB2.out (bel1 _ _)) hb1)
      clear hb1 HB2
      go_wp2_with fail
      refine (awake_any _).mono ?_
      rintro e W4 ⟨rfl, hb1⟩
      have HB4 := hide (bel HB3.out hb1)
      clear hb1 HB3
      go_wp2_with fail
      go_ret
      exact ⟨rfl, HB4.out⟩
  · have HB := hide hb1
    have HC := hide (HasC.new W1 26 (tr4 (.slice na es.length nc) (.slice ba es.length bc) (.slice da (szL es + ex.size) dc) (.int .i64 (((szL es + ex.size : Nat) : Int) - 1))))
    have HTA := hide (show ak (bs a) = some (T.map ab) ∧ a.size ≤ 1024 from by have := ak_of hT; rw [bs_len] at this; exact this)
    have HAA := hide hA
    have HSA := hide (Nat.le_trans hz (tks_len hT))
    have HL := hide hl
    have HN := hide hn
    clear hb1 hT hA hl hn hx hz
    go_wp2_with fail
    refine (parse_read _ _).mono ?_
    rintro e W2 (⟨rfl, hb1, -⟩ | ⟨T2, NM2, es2, ex2, na2, nc2, ba2, bc2, da2, dc2, hT, hA, hl, hz, rfl, hx, -, hn, hb1⟩)
    · have HB2 := hide (bel (bel HB.out (bel1 _ _)) hb1)
      clear hb1 HB HC
      go_wp2_with fail
      refine (awake_any _).mono ?_
      rintro e W3 ⟨rfl, hb1⟩
      have HB3 := hide (bel (bel HB2.out (bel1 _ _)) hb1)
      clear hb1 HB2
      go_wp2_with fail
      refine (awake_any _).mono ?_
      rintro e W4 ⟨rfl, hb1⟩
      have HB4 := hide (bel HB3.out hb1)
      clear hb1 HB3
      go_wp2_with fail
      go_ret
      exact ⟨rfl, HB4.out⟩
    · have HB2 := hide (bel (bel HB.out (bel1 _ _)) hb1)
      have HC1 := hide (HC.out.below hb1)
      have HN1 := hide (HN.out.later (bel (bel1 W1 (.cells (tr4 (.slice na es.length nc) (.slice ba es.length bc) (.slice da (szL es + ex.size) dc) (.int .i64 (((szL es + ex.size : Nat) : Int) - 1))) 26)) hb1))
      have HTB := hide (show ak (bs b) = some (T2.map ab) ∧ b.size ≤ 1024 from by have := ak_of hT; rw [bs_len] at this; exact this)
      have HAB := hide hA
      have HSB := hide (Nat.le_trans hz (tks_len hT))
      have HL2 := hide hl
      have HN2 := hide hn
      clear hb1 HB HC hT hA hl hn hx HN hz
      generalize W1.heap.size = q1 at HC1 ⊢
      obtain ⟨cs1, hcs1⟩ : ∃ cs, tr4 (.slice na es.length nc) (.slice ba es.length bc) (.slice da (szL es + ex.size) dc) (.int .i64 (((szL es + ex.size : Nat) : Int) - 1)) = cs := ⟨_, rfl⟩
      go_wp2_with fail
      refine (awake_any _).mono ?_
      rintro e W3 ⟨rfl, hb1⟩
      have HB3 := hide (bel (bel HB2.out (bel1 _ _)) hb1)
      have HC3 := hide ((HC1.out.alloc (.cells (tr4 (.slice na2 es2.length nc2) (.slice ba2 es2.length bc2) (.slice da2 (szL es2 + ex2.size) dc2) (.int .i64 (((szL es2 + ex2.size : Nat) : Int) - 1))) 26)).below hb1)
      have HD3 := hide ((HasC.new W2 26 (tr4 (.slice na2 es2.length nc2) (.slice ba2 es2.length bc2) (.slice da2 (szL es2 + ex2.size) dc2) (.int .i64 (((szL es2 + ex2.size : Nat) : Int) - 1)))).below hb1)
      have hbb := bel (bel1 W2 (.cells (tr4 (.slice na2 es2.length nc2) (.slice ba2 es2.length bc2) (.slice da2 (szL es2 + ex2.size) dc2) (.int .i64 (((szL es2 + ex2.size : Nat) : Int) - 1))) 26)) hb1
      have HN3 := hide (HN1.out.later hbb)
      have HM3 := hide (HN2.out.later hbb)
      clear hb1 hbb HB2 HC1 HN1 HN2 hcs1
      generalize W2.heap.size = q2 at HD3 ⊢
      obtain ⟨c0, c1, c2, c3⟩ := facts4 HC3.out
      obtain ⟨d0, d1, d2, d3⟩ := facts4 HD3.out
      by_cases hbig : (1000 : Int) < (a.size : Int) + (b.size : Int)
      · go_wp2_with fail
        refine (awake_any _).mono ?_
        rintro e W4 ⟨rfl, hb1⟩
        have HB4 := hide (bel HB3.out hb1)
        clear hb1
        go_wp2_with fail
        go_ret
        exact ⟨rfl, HB4.out⟩
      by_cases he1 : 0 < es.length
      · have he1' : (0 : Int) < (es.length : Int) := by omega
        go_wp2_with fail
        refine (awake_any _).mono ?_
        rintro e W4 ⟨rfl, hb1⟩
        have HB4 := hide (bel HB3.out hb1)
        clear hb1
        go_wp2_with fail
        go_ret
        exact ⟨rfl, HB4.out⟩
      by_cases he2 : 0 < es2.length
      · have he2' : (0 : Int) < (es2.length : Int) := by omega
        have he1' : ¬ (0 : Int) < (es.length : Int) := by omega
        go_wp2_with fail
        refine (awake_any _).mono ?_
        rintro e W4 ⟨rfl, hb1⟩
        have HB4 := hide (bel HB3.out hb1)
        clear hb1
        go_wp2_with fail
        go_ret
        exact ⟨rfl, HB4.out⟩
      obtain ⟨rfl, rfl, hG1⟩ := gp_one ((HAA.out _).1 rfl) HL.out (by omega)
      obtain ⟨rfl, rfl, hG2⟩ := gp_one ((HAB.out _).1 rfl) HL2.out (by omega)
      simp only [szL, Nat.zero_add, flL, List.nil_append, List.length_nil] at HC3 HD3 HN3 HM3 c0 c1 c2 c3 d0 d1 d2 d3 ⊢
      obtain ⟨κ, hκ⟩ : ∃ κ : Nat, k0 % 16 = (κ : Int) := ⟨(k0 % 16).toNat, by omega⟩
      have hκ16 : κ < 16 := by omega
      have HG1 := hide hG1
      have HG2 := hide hG2
      have hab : a.size + b.size ≤ 1000 := by omega
      clear he1 he2 hbig hG1 hG2 HL HL2 HAA HAB
      go_upto_region 5 with fail
      go_cut [11] from 23 to 64 (fun s11 wc => s11 = .slice (some ⟨W3.heap.size, 0, none⟩) 16 16 ∧ wc = W3.alloc (.cells mkC 9))
      case first =>
        go_wp2_with fail
        go_meet
        exact ⟨rfl, rfl⟩
      case rest =>
        obtain ⟨rfl, rfl⟩ := hcut
        go_upto_region 8 with fail
        have hbV := bel (bel1 W3 (.cells mkC 9)) (bel1 (W3.alloc (.cells mkC 9)) (.cells opC 3))
        have HBV := hide (bel HB3.out hbV)
        have cm : ((W3.alloc (.cells mkC 9)).alloc (.cells opC 3)).cell? ⟨W3.heap.size, κ, none⟩ = some (.string (sB (row κ).2.1)) := ((HasC.new W3 9 mkC).alloc (.cells opC 3)).cell κ (mkC_at hκ16)
        have HO := hide (HasC.new (W3.alloc (.cells mkC 9)) 3 opC)
        rw [World.size_alloc] at HO
        have HC4 := hide (HC3.out.below hbV)
        have HD4 := hide (HD3.out.below hbV)
        have HN4 := hide (HN3.out.later hbV)
        have HM4 := hide (HM3.out.later hbV)
        generalize (W3.alloc (.cells mkC 9)).alloc (.cells opC 3) = V at cm HBV HO HC4 HD4 HN4 HM4 ⊢
        generalize W3.heap.size = qm at cm HO ⊢
        clear hbV HC3 HD3 HN3 HM3 HB3 c0 c1 c2 c3 d0 d1 d2 d3
        obtain ⟨-, -, -, -, hml, -⟩ := row_mark hκ16
        have HJ := hide (tks_join hκ16 HTA.out.1 HTB.out.1)
        have HGJ := hide (gp_join hκ16 HG1.out HG2.out)
        have HOK := hide (opC_at hκ16)
        obtain ⟨mo, hmo⟩ : ∃ mo, (row κ).2.2 = mo := ⟨_, rfl⟩
        obtain ⟨ml, hml'⟩ : ∃ ml, (row κ).1 = ml := ⟨_, rfl⟩
        obtain ⟨mt, hmt⟩ : ∃ mt, (row κ).2.1 = mt := ⟨_, rfl⟩
        rw [hmo, hml', hmt] at HJ
        rw [hmo, hml'] at HGJ
        rw [hmo] at HOK
        rw [hmt] at cm hml
        have hms : (sB mt).size ≤ 2 := by rw [sB_size]; exact hml
        have HMT := hide (show bs (sB mt) = mt from rfl)
        clear hmo hml' hmt
        generalize hu : sB mt = u at cm hms HMT
        clear hu
        go_wp2_with fail
        refine (parse_of (A := .lp :: (T.map ab ++ .rp :: .op ml mo :: .lp :: (T2.map ab ++ [.rp]))) (NM := []) (es := []) (ex := .bin mo ex ex2) (by rw [← HJ.out]; simp only [bs_add]; rw [HMT.out]; simp [bs]) (by rw [← bs_len]; simp only [bs_add, List.length_append, bs_len a, bs_len b, bs_len u]; simp [bs]; omega) HGJ.out _).mono ?_
        rintro e W5 ⟨wna, wnc, wba, wbc, wda, wdc, rfl, -, -, hn5, hb5⟩
        simp only [szL, Nat.zero_add, flL, List.nil_append, List.length_nil] at hn5 ⊢
        have HB5 := hide (bel HBV.out hb5)
        have HC5 := hide (HC4.out.below hb5)
        have HD5 := hide (HD4.out.below hb5)
        have HO5 := hide (HO.out.below hb5)
        have HN5 := hide (HN4.out.later hb5)
        have HM5 := hide (HM4.out.later hb5)
        have HW5 := hide hn5
        clear hb5 hn5 HBV HC4 HD4 HO HN4 HM4 cm HJ HGJ
        obtain ⟨xw, hxw⟩ : ∃ xw, (E.bin mo ex ex2).size = xw := ⟨_, rfl⟩
        have hxw' : xw = ex.size + ex2.size + 1 := hxw.symm
        have HXW := hide hxw'
        rw [hxw] at HW5 ⊢
        clear hxw hxw'
        go_upto_region 9 with fail
        have hbV := bel1 W5 (.cells (tr4 (.slice wna 0 wnc) (.slice wba 0 wbc) (.slice wda xw wdc) (.int .i64 ((xw : Int) - 1))) 26)
        have HF6 := hide (HasC.new W5 26 (tr4 (.slice wna 0 wnc) (.slice wba 0 wbc) (.slice wda xw wdc) (.int .i64 ((xw : Int) - 1))))
        have HB6 := hide (bel HB5.out hbV)
        have HC6 := hide (HC5.out.below hbV)
        have HD6 := hide (HD5.out.below hbV)
        have HO6 := hide (HO5.out.below hbV)
        have HN6 := hide (HN5.out.later hbV)
        have HM6 := hide (HM5.out.later hbV)
        have HW6 := hide (HW5.out.later hbV)
        generalize W5.alloc (.cells (tr4 (.slice wna 0 wnc) (.slice wba 0 wbc) (.slice wda xw wdc) (.int .i64 ((xw : Int) - 1))) 26) = V6 at HF6 HB6 HC6 HD6 HO6 HN6 HM6 HW6 ⊢
        generalize W5.heap.size = q3 at HF6 ⊢
        clear hbV HB5 HC5 HD5 HO5 HN5 HM5 HW5
        go_wp2_with fail
        refine (parse_of (A := .op 5 9 :: .lp :: (T.map ab ++ [.rp])) (NM := []) (es := []) (ex := .un 5 ex) (by rw [← tks_neg HTA.out.1]; simp only [bs_add]; simp [bs]) (by rw [← bs_len]; simp only [bs_add, List.length_append, bs_len a]; simp [bs]; omega) (gp_neg HG1.out) _).mono ?_
        rintro e W7 ⟨nna, nnc, nba, nbc, nda, ndc, rfl, -, -, hn7, hb7⟩
        simp only [szL, Nat.zero_add, flL, List.nil_append, List.length_nil] at hn7 ⊢
        have HB7 := hide (bel HB6.out hb7)
        have HC7 := hide (HC6.out.below hb7)
        have HD7 := hide (HD6.out.below hb7)
        have HO7 := hide (HO6.out.below hb7)
        have HF7 := hide (HF6.out.below hb7)
        have HN7 := hide (HN6.out.later hb7)
        have HM7 := hide (HM6.out.later hb7)
        have HW7 := hide (HW6.out.later hb7)
        have HU7 := hide hn7
        clear hb7 hn7 HB6 HC6 HD6 HO6 HF6 HN6 HM6 HW6
        obtain ⟨xn, hxn⟩ : ∃ xn, (E.un 5 ex).size = xn := ⟨_, rfl⟩
        have hxn' : xn = ex.size + 1 := hxn.symm
        have HXN := hide hxn'
        rw [hxn] at HU7 ⊢
        clear hxn hxn'
        go_upto_region 10 with fail
        have hbV := bel1 W7 (.cells (tr4 (.slice nna 0 nnc) (.slice nba 0 nbc) (.slice nda xn ndc) (.int .i64 ((xn : Int) - 1))) 26)
        have HH8 := hide (HasC.new W7 26 (tr4 (.slice nna 0 nnc) (.slice nba 0 nbc) (.slice nda xn ndc) (.int .i64 ((xn : Int) - 1))))
        have HB8 := hide (bel HB7.out hbV)
        have HC8 := hide (HC7.out.below hbV)
        have HD8 := hide (HD7.out.below hbV)
        have HO8 := hide (HO7.out.below hbV)
        have HF8 := hide (HF7.out.below hbV)
        have HN8 := hide (HN7.out.later hbV)
        have HM8 := hide (HM7.out.later hbV)
        have HW8 := hide (HW7.out.later hbV)
        have HU8 := hide (HU7.out.later hbV)
        generalize W7.alloc (.cells (tr4 (.slice nna 0 nnc) (.slice nba 0 nbc) (.slice nda xn ndc) (.int .i64 ((xn : Int) - 1))) 26) = V8 at HH8 HB8 HC8 HD8 HO8 HF8 HN8 HM8 HW8 HU8 ⊢
        generalize W7.heap.size = q4 at HH8 ⊢
        clear hbV HB7 HC7 HD7 HO7 HF7 HN7 HM7 HW7 HU7
        go_wp2_with fail
        refine (parse_of (A := .word wMax :: .lp :: (T.map ab ++ .comma :: (T2.map ab ++ [.rp]))) (NM := []) (es := []) (ex := .bin 25 ex ex2) (by rw [← tks_max HTA.out.1 HTB.out.1]; simp only [bs_add]; simp [bs, wMax]) (by rw [← bs_len]; simp only [bs_add, List.length_append, bs_len a, bs_len b]; simp [bs]; omega) (gp_max HG1.out HG2.out) _).mono ?_
        rintro e W9 ⟨mna, mnc, mba, mbc, mda, mdc, rfl, -, -, hn9, hb9⟩
        simp only [szL, Nat.zero_add, flL, List.nil_append, List.length_nil] at hn9 ⊢
        have HB9 := hide (bel HB8.out hb9)
        have HC9 := hide (HC8.out.below hb9)
        have HD9 := hide (HD8.out.below hb9)
        have HO9 := hide (HO8.out.below hb9)
        have HF9 := hide (HF8.out.below hb9)
        have HH9 := hide (HH8.out.below hb9)
        have HN9 := hide (HN8.out.later hb9)
        have HM9 := hide (HM8.out.later hb9)
        have HW9 := hide (HW8.out.later hb9)
        have HU9 := hide (HU8.out.later hb9)
        have HX9 := hide hn9
        clear hb9 hn9 HB8 HC8 HD8 HO8 HF8 HH8 HN8 HM8 HW8 HU8
        obtain ⟨xm, hxm⟩ : ∃ xm, (E.bin 25 ex ex2).size = xm := ⟨_, rfl⟩
        have hxm' : xm = ex.size + ex2.size + 1 := hxm.symm
        have HXM := hide hxm'
        rw [hxm] at HX9 ⊢
        clear hxm hxm'
        go_upto_region 11 with fail
        have hbV := bel1 W9 (.cells (tr4 (.slice mna 0 mnc) (.slice mba 0 mbc) (.slice mda xm mdc) (.int .i64 ((xm : Int) - 1))) 26)
        have HI10 := hide (HasC.new W9 26 (tr4 (.slice mna 0 mnc) (.slice mba 0 mbc) (.slice mda xm mdc) (.int .i64 ((xm : Int) - 1))))
        have HB10 := hide (bel HB9.out hbV)
        have HC10 := hide (HC9.out.below hbV)
        have HD10 := hide (HD9.out.below hbV)
        have HO10 := hide (HO9.out.below hbV)
        have HF10 := hide (HF9.out.below hbV)
        have HH10 := hide (HH9.out.below hbV)
        have HN10 := hide (HN9.out.later hbV)
        have HM10 := hide (HM9.out.later hbV)
        have HW10 := hide (HW9.out.later hbV)
        have HU10 := hide (HU9.out.later hbV)
        have HX10 := hide (HX9.out.later hbV)
        generalize W9.alloc (.cells (tr4 (.slice mna 0 mnc) (.slice mba 0 mbc) (.slice mda xm mdc) (.int .i64 ((xm : Int) - 1))) 26) = V10 at HI10 HH10 HB10 HC10 HD10 HO10 HF10 HN10 HM10 HW10 HU10 HX10 ⊢
        generalize W9.heap.size = q5 at HI10 ⊢
        clear hbV HB9 HC9 HD9 HO9 HF9 HH9 HN9 HM9 HW9 HU9 HX9
        obtain ⟨-, -, c2, -⟩ := facts4 HC10.out
        obtain ⟨-, -, d2, -⟩ := facts4 HD10.out
        obtain ⟨-, -, f2, -⟩ := facts4 HF10.out
        obtain ⟨-, -, h2, -⟩ := facts4 HH10.out
        obtain ⟨-, -, i2, -⟩ := facts4 HI10.out
        have co : V10.cell? ⟨qm + 1, κ, none⟩ = some (.int .i64 mo) := HO10.out.cell κ HOK.out
        have hx0 := ex.size_pos
        have hy0 := ex2.size_pos
        obtain ⟨g1, o1, rfl, T1⟩ := HN10.out.at hx0
        obtain ⟨g3, o3, rfl, T3⟩ := HW10.out.at (by have := HXW.out; omega)
        obtain ⟨g4, o4, rfl, T4⟩ := HU10.out.at (by have := HXN.out; omega)
        obtain ⟨g5, o5, rfl, T5⟩ := HX10.out.at (by have := HXM.out; omega)
        have t3 := T3 (ex.size + ex2.size) (by have := HXW.out; omega)
        have t4 := T4 ex.size (by have := HXN.out; omega)
        have t5 := T5 (ex.size + ex2.size) (by have := HXM.out; omega)
        rw [(flat_bin mo ex ex2).2] at t3
        rw [(flat_un 5 ex).2] at t4
        rw [(flat_bin 25 ex ex2).2] at t5
        have HT := hide (show ∀ i, i < ex.size → at9 V10 g1 (o1 + i * 9) ((ex.flat 0).getD i n0) ∧ at9 V10 g3 (o3 + i * 9) ((ex.flat 0).getD i n0) ∧ at9 V10 g4 (o4 + i * 9) ((ex.flat 0).getD i n0) ∧ at9 V10 g5 (o5 + i * 9) ((ex.flat 0).getD i n0) from fun i hi =>
          ⟨T1 i hi, by rw [← (flat_bin mo ex ex2).1 i hi]; exact T3 i (by have := HXW.out; omega), by rw [← (flat_un 5 ex).1 i hi]; exact T4 i (by have := HXN.out; omega), by rw [← (flat_bin 25 ex ex2).1 i hi]; exact T5 i (by have := HXM.out; omega)⟩)
        have hc1 := HN10.out.le
        have hc3 := HW10.out.le
        have hc4 := HU10.out.le
        have hc5 := HX10.out.le
        have hxs : ex.size ≤ 1024 := by have := HSA.out; simp [szL] at this; omega
        have hys : ex2.size ≤ 1024 := by have := HSB.out; simp [szL] at this; omega
        have HXS := hide hxs
        have hk1 : ((ex.size : Int) == 0) = false := by simp; omega
        have hk2 : ((ex2.size : Int) == 0) = false := by simp; omega
        have hk3 : ((xw : Int) != (ex.size : Int) + (ex2.size : Int) + 1) = false := by have := HXW.out; simp; omega
        have hk4 : ((xn : Int) != (ex.size : Int) + 1) = false := by have := HXN.out; simp; omega
        have hk5 : ((xm : Int) != (ex.size : Int) + (ex2.size : Int) + 1) = false := by have := HXM.out; simp; omega
        have hw1 : (ex.size : Int) + (ex2.size : Int) < (xw : Int) := by have := HXW.out; omega
        have hw2 : (ex.size : Int) < (xn : Int) := by have := HXN.out; omega
        have hw3 : (ex.size : Int) + (ex2.size : Int) < (xm : Int) := by have := HXM.out; omega
        have hw4 : (κ : Int) < 16 := by omega
        obtain ⟨p0, p1, p2, p3, p4, p5, p6, p7, p8⟩ := t3
        obtain ⟨r0, r1, r2, r3, r4, r5, r6, r7, r8⟩ := t4
        obtain ⟨s0, s1, s2, s3, s4, s5, s6, s7, s8⟩ := t5
        clear T1 T3 T4 T5 HN10 HM10 HW10 HU10 HX10 HC10 HD10 HF10 HH10 HI10 HO10
        generalize ex.size = x at *
        generalize ex2.size = y at *
        go_upto_region 13 with fail
        go_quiet (fail)
        go_upto_region 16 with fail
        rw [hκ]
        go_quiet (fail)
        clear p0 p1 p2 p3 p4 p5 p6 p7 p8 r0 r1 r2 r3 r4 r5 r6 r7 r8 s0 s1 s2 s3 s4 s5 s6 s7 s8
        go_wp2_with fail
        have HBN := hide (show Below w.heap.size w ((V10.drewN nq).drewN nq) → True from fun _ => trivial)
        clear HBN
        go_loopw [22] (fun s22 wr => ∃ i : Nat, i ≤ x ∧ s22 = .int .i64 i ∧ (∀ p, wr.cell? p = V10.cell? p) ∧ Hid (Below V10.heap.size V10 wr)) (fun s22 _ => x - (intOf s22).toNat)
        case atStart => exact ⟨0, by omega, rfl, fun p => rfl, hide ⟨rfl, rfl, rfl, Nat.le_refl _, fun _ _ => rfl⟩⟩
        case round =>
          obtain ⟨i, hi, rfl, hcw, HBw⟩ := hrel
          by_cases hlt : i < x
          · obtain ⟨⟨a0, a1, a2, a3, a4, a5, a6, a7, a8⟩, ⟨b0, b1, b2, b3, b4, b5, b6, b7, b8⟩, ⟨e0, e1, e2, e3, e4, e5, e6, e7, e8⟩, ⟨m0, m1, m2, m3, m4, m5, m6, m7, m8⟩⟩ := HT.out i (by omega)
            have hw5 : (i : Int) < (x : Int) := by omega
            have hw6 : (i : Int) < (xw : Int) := by omega
            have hw7 : (i : Int) < (xn : Int) := by omega
            have hw8 : (i : Int) < (xm : Int) := by omega
            have hw9 : (0 : Int) ≤ (i : Int) := by omega
            generalize (ex.flat 0).getD i n0 = nd at *
            go_upto_region 21 with fail
            go_quiet (fail)
            go_wp2_with fail
            go_roundw
            case rel => exact ⟨i + 1, by omega, by go_num, fun p => hcw p, hide (bel HBw.out (below_drewN _ _))⟩
            case measure => simp [intOf]; omega
          · go_wp2_with fail
            go_ret
            exact ⟨rfl, bel HB10.out HBw.out⟩

theorem joins_walk (a b : ByteArray) (k0 : Int) (w : World) (ha : a.data.toList.length ≤ reachBytes) (hb : b.data.toList.length ≤ reachBytes) (hk0 : 0 ≤ k0 ∧ k0 ≤ 255) :
    Calls Try.prog 8 #[.string a, .string b, .int .u8 k0] w fun e w' => e = .returned (.bool true) ∧ Below w.heap.size w w' :=
  joins_walk0 a b k0 w hk0 (by rw [← bs_len]; unfold reachBytes at ha; exact Nat.le_trans ha (by decide)) (by rw [← bs_len]; unfold reachBytes at hb; exact Nat.le_trans hb (by decide))

end Go.Proofs.Ytamekjocchekoaa
