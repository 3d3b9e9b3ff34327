/-
  The document's plain, whatever the operator: its span is the program's, once both are held against the words of 32 bits.
-/
import Derived.Test.YtihbhbeaihdgnaaGreatRGN
import Derived.Test.YtihbhbeaihdgnaaGreatRGT
import Derived.Test.YtihbhbeaihdgnaaGreatRGU
import Derived.Test.YtihbhbeaihdgnaaGreatRGV
import Derived.Test.YtihbhbeaihdgnaaGreatRGM
namespace Go.Proofs.YtihbhbeaihdgnaaGreat.Spn
open Go.RowKit Go.IntWalk Go.Sort
set_option linter.unusedVariables false

/-- qcorners, as a pair. -/
theorem qcorn (op a b c d : Int) (g : Int → Int → Int) (H : ∀ x y w, (x = a ∨ x = b) → (y = c ∨ y = d) → Calls Tryz.prog 132 #[.int .i64 op, .int .i64 x, .int .i64 y] w fun e w' => e = .returned (.int .i64 (g x y)) ∧ w' = w) (W : World) :
    Calls Tryz.prog 94 #[.int .i64 op, .agg #[.int .i64 a, .int .i64 b], .agg #[.int .i64 c, .int .i64 d]] W fun e w' =>
      e = .returned (.agg #[.int .i64 (min (min (min (g a c) (g a d)) (g b c)) (g b d), max (max (max (g a c) (g a d)) (g b c)) (g b d)).1, .int .i64 (min (min (min (g a c) (g a d)) (g b c)) (g b d), max (max (max (g a c) (g a d)) (g b c)) (g b d)).2]) ∧ Below W.heap.size W w' := by
  have h := qcorners_any op a b c d g W H
  rw [(h4 _ _ _ _).1, (h4 _ _ _ _).2] at h
  exact h

theorem w2 {a b x : Int} (ha : W32 a) (hb : W32 b) (h : x = a ∨ x = b) : W32 x := by rcases h with rfl | rfl <;> assumption

theorem qpaired_any (op k s a b c d : Int) (ho : ar op = 2) (h1 : whB a b = true) (h2 : whB c d = true) :
    ∃ Z, finZ Z = finZ (reckZ op k s [(a, b), (c, d)]) ∧ ∀ W, Calls Tryz.prog 99 #[.int .i64 op, .agg #[.int .i64 a, .int .i64 b], .agg #[.int .i64 c, .int .i64 d]] W fun r w' => r = .returned (spV Z) ∧ Below W.heap.size W w' := by
  obtain ⟨hab, A1, A2, B1, B2⟩ := whB_iff.1 h1
  obtain ⟨hcd, C1, C2, D1, D2⟩ := whB_iff.1 h2
  have ha : W32 a := ⟨A1, A2⟩
  have hb : W32 b := ⟨B1, B2⟩
  have hc : W32 c := ⟨C1, C2⟩
  have hd : W32 d := ⟨D1, D2⟩
  have f1 : fsts [(a, b), (c, d)] = [a, c] := rfl
  have f2 : snds [(a, b), (c, d)] = [b, d] := rfl
  obtain ⟨t22, t23, t15, t16, t17, t8, t9⟩ := two22 a b c d
  rcases two_ways ho with hop | hop | hop | hop
  · rw [rk_div hop]
    by_cases h0 : hasB c d 0 = true
    · refine ⟨((0, 0), 12), ?_, fun W => qpair_zero op a b c d W hop h0⟩
      unfold divZ
      rw [if_pos h0]
    · have h0' : hasB c d 0 = false := by simpa using h0
      have hn : ¬ (c ≤ 0 ∧ 0 ≤ d) := fun hh => h0 (hasB_iff.2 hh)
      unfold divZ
      rw [if_neg h0]
      rcases hop with rfl | rfl
      · rw [if_pos rfl]
        refine ⟨_, ?_, fun W => qpair_11 a b c d _ W h0' (qcorn 11 a b c d (fun x y => x.tdiv y) fun x y w hx hy => wide_11 x y w (w2 ha hb hx) (w2 hc hd hy) (by omega))⟩
        exact corn_fin (v11 ha hc (by omega)) (v11 ha hd (by omega)) (v11 hb hc (by omega)) (v11 hb hd (by omega))
      · rw [if_neg (by decide)]
        exact ⟨_, rfl, fun W => qpair_12 a b c d W ha hb hc hd hcd h0'⟩
  · rw [rk_corn hop]
    rcases hop with rfl | hop | hop | hop
    · refine ⟨_, ?_, fun W => qpair_call 10 94 a b c d _ W (.inl ⟨rfl, rfl⟩) (qcorn 10 a b c d (fun x y => x * y) fun x y w hx hy => wide_10 x y w (w2 ha hb hx) (w2 hc hd hy))⟩
      exact corn_fin (v10 ha hc) (v10 ha hd) (v10 hb hc) (v10 hb hd)
    · subst hop
      by_cases hs : 0 ≤ c ∧ d ≤ 31
      · refine ⟨_, ?_, fun W => qpair_sh 13 a b c d _ W (.inl rfl) hs (qcorn 13 a b c d (fun x y => x * 2 ^ y.toNat) fun x y w hx hy => wide_13 x y w (w2 ha hb hx) (by omega))⟩
        exact corn_fin (v13 ha hc (by omega)) (v13 ha hd (by omega)) (v13 hb hc (by omega)) (v13 hb hd (by omega))
      · exact ⟨_, sh_fin (.inl rfl) ha hb hc hd hcd (by omega), fun W => qpair_sh_bad 13 a b c d W (.inl rfl) (by omega)⟩
    · subst hop
      by_cases hs : 0 ≤ c ∧ d ≤ 31
      · refine ⟨_, ?_, fun W => qpair_sh 14 a b c d _ W (.inr rfl) hs (qcorn 14 a b c d (fun x y => x / 2 ^ y.toNat) fun x y w hx hy => wide_14 x y w (w2 ha hb hx) (by omega))⟩
        exact corn_fin (v14 ha hc (by omega)) (v14 ha hd (by omega)) (v14 hb hc (by omega)) (v14 hb hd (by omega))
      · exact ⟨_, sh_fin (.inr rfl) ha hb hc hd hcd (by omega), fun W => qpair_sh_bad 14 a b c d W (.inr rfl) (by omega)⟩
    · refine ⟨_, cmp_fin hop ha hb hc hd hab hcd, ?_⟩
      intro W
      refine qpair_call op 134 a b c d _ W (.inr (.inr ⟨rfl, by omega⟩)) fun W => ?_
      rcases hop with rfl | rfl | rfl | rfl
      · exact qcmp_18 a b c d W
      · exact qcmp_19 a b c d W
      · exact qcmp_20 a b c d W
      · exact qcmp_21 a b c d W
  · rw [rk_ends (by omega)]
    rcases hop with rfl | rfl
    · refine ⟨_, ?_, fun W => qpair_24 a b c d W⟩
      exact ends_fin (by rw [f1, ← ifwd (wd_iff.2 (by omega))]; exact v24 ha hc) (by rw [f2, ← ifwd (wd_iff.2 (by omega))]; exact v24 hb hd)
    · refine ⟨_, ?_, fun W => qpair_25 a b c d W⟩
      exact ends_fin (by rw [f1, ← ifwd (wd_iff.2 (by omega))]; exact v25 ha hc) (by rw [f2, ← ifwd (wd_iff.2 (by omega))]; exact v25 hb hd)
  · rw [rk_two hop]
    rcases hop with rfl | rfl | rfl | rfl | rfl | rfl | rfl
    · rw [t8]; exact ⟨_, rfl, fun W => qpair_8 a b c d W ha hb hc hd⟩
    · rw [t9]; exact ⟨_, rfl, fun W => qpair_9 a b c d W ha hb hc hd⟩
    · rw [t15]; exact ⟨_, rfl, fun W => qpair_call 15 95 a b c d _ W (.inr (.inl ⟨rfl, by omega⟩)) fun W => qbit_and a b c d W ha hb hc hd⟩
    · rw [t16]; exact ⟨_, rfl, fun W => qpair_call 16 95 a b c d _ W (.inr (.inl ⟨rfl, by omega⟩)) fun W => qbit_16 a b c d W ha hb hc hd⟩
    · rw [t17]; exact ⟨_, rfl, fun W => qpair_call 17 95 a b c d _ W (.inr (.inl ⟨rfl, by omega⟩)) fun W => qbit_17 a b c d W ha hb hc hd⟩
    · rw [t22]; exact ⟨_, rfl, fun W => qpair_call 22 134 a b c d _ W (.inr (.inr ⟨rfl, by omega⟩)) fun W => qcmp_22 a b c d W⟩
    · rw [t23]; exact ⟨_, rfl, fun W => qpair_call 23 134 a b c d _ W (.inr (.inr ⟨rfl, by omega⟩)) fun W => qcmp_23 a b c d W⟩

/-- One span. -/
theorem qone_any (op k s x y : Int) (ho : ar op = 1) (hco : cons op k s = true) (hw : whB x y = true) :
    ∃ Z, finZ Z = finZ (reckZ op k s [(x, y)]) ∧ ∀ (bb off cap : Nat) (w : World), 1 ≤ cap → bb < w.heap.size → w.cell? ⟨bb, off, none⟩ = some (.int .i64 x) → w.cell? ⟨bb, off + 1, none⟩ = some (.int .i64 y) →
      Calls Tryz.prog 53 #[.int .i64 op, .int .i64 k, .int .i64 s, .slice (some ⟨bb, off, none⟩) 1 cap] w fun r w' => r = .returned (spV Z) ∧ Below w.heap.size w w' := by
  obtain ⟨hxy, X1, X2, Y1, Y2⟩ := whB_iff.1 hw
  have hx : W32 x := ⟨X1, X2⟩
  have hy : W32 y := ⟨Y1, Y2⟩
  have f1 : fsts [(x, y)] = [x] := rfl
  have f2 : snds [(x, y)] = [y] := rfl
  rcases one_cases ho with rfl | rfl | rfl | rfl | rfl | rfl | rfl | rfl
  · rw [rk_one (.inl rfl)]
    exact ⟨_, rfl, fun bb off cap w hcap hlt c0 c1 => qplain_5 k s x y bb off cap w hcap hlt c0 c1 hx hy⟩
  · rw [rk_one (.inr rfl), ← one6 hxy]
    exact ⟨_, rfl, fun bb off cap w hcap hlt c0 c1 => qplain_6 k s x y bb off cap w hcap hlt c0 c1 hx hy⟩
  · rw [rk_ends (by simp)]
    refine ⟨_, ?_, fun bb off cap w hcap hlt c0 c1 => qplain_7 k s x y bb off cap w hcap hlt c0 c1 hx hy⟩
    have t1 := trd (0 < x)
    have t2 := trd (x < 0)
    have t3 := trd (0 < y)
    have t4 := trd (y < 0)
    rw [v7 hx, v7 hy]
    exact ends_fin (by rw [f1, ← ifwd (wd_iff.2 (by omega))]; exact v7 hx) (by rw [f2, ← ifwd (wd_iff.2 (by omega))]; exact v7 hy)
  · have hk : inB k 0 31 = true := hco
    have hk' := inB_iff.1 hk
    have hkw : W32 k := ⟨by omega, by omega⟩
    rw [rk_ends (by simp)]
    refine ⟨_, ?_, fun bb off cap w hcap hlt c0 c1 => qplain_29 k s x y bb off cap w hcap hlt c0 c1 hx hy _ (qcorn 13 x y k k (fun x y => x * 2 ^ y.toNat) fun u v w hu hv => wide_13 u v w (w2 hx hy hu) (by omega))⟩
    have hp := (pow_mono (Nat.le_refl k.toNat)).2
    have hle : x * 2 ^ k.toNat ≤ y * 2 ^ k.toNat := Int.mul_le_mul_of_nonneg_right hxy (by omega)
    generalize hX : x * 2 ^ k.toNat = X at *
    generalize hY : y * 2 ^ k.toNat = Y at *
    rw [show min (min (min X X) Y) Y = X by omega, show max (max (max X X) Y) Y = Y by omega, ← hX, ← hY]
    exact ends_fin (v29 hco hx) (v29 hco hy)
  · have hk : inB k 0 31 = true := hco
    have hk' := inB_iff.1 hk
    have hkw : W32 k := ⟨by omega, by omega⟩
    rw [rk_ends (by simp)]
    refine ⟨_, ?_, fun bb off cap w hcap hlt c0 c1 => qplain_30 k s x y bb off cap w hcap hlt c0 c1 hx hy _ (qcorn 14 x y k k (fun x y => x / 2 ^ y.toNat) fun u v w hu hv => wide_14 u v w (w2 hx hy hu) (by omega))⟩
    have hp := (pow_mono (Nat.le_refl k.toNat)).2
    have hle : x / 2 ^ k.toNat ≤ y / 2 ^ k.toNat := ediv_mono (by omega) hxy
    generalize hX : x / 2 ^ k.toNat = X at *
    generalize hY : y / 2 ^ k.toNat = Y at *
    rw [show min (min (min X X) Y) Y = X by omega, show max (max (max X X) Y) Y = Y by omega, ← hX, ← hY]
    exact ends_fin (v30 hco hx) (v30 hco hy)
  · have hk : inB k 0 2147483647 = true := hco
    have hk' := inB_iff.1 hk
    have hkw : W32 k := ⟨by omega, by omega⟩
    rw [rk_andk rfl]
    exact ⟨_, rfl, fun bb off cap w hcap hlt c0 c1 => qplain_31 k s x y bb off cap w hcap hlt c0 c1 hx hy _ fun W => qbit_and x y k k W hx hy hkw hkw⟩
  · have hk : wd k = true := hco
    have hkw : W32 k := wd_iff.1 hk
    rw [rk_mulk rfl]
    refine ⟨_, ?_, fun bb off cap w hcap hlt c0 c1 => qplain_32 k s x y bb off cap w hcap hlt c0 c1 hx hy _ (qcorn 10 x y k k (fun x y => x * y) fun u v w hu hv => wide_10 u v w (w2 hx hy hu) (w2 hkw hkw hv))⟩
    exact corn_fin (v10 hx hkw) (v10 hx hkw) (v10 hy hkw) (v10 hy hkw)
  · have hk : (inB k 1 4611686018427387904 && inB s 0 62) = true := hco
    rw [Bool.and_eq_true, inB_iff, inB_iff] at hk
    rw [rk_ends (by simp)]
    obtain ⟨M, hM⟩ : ∃ M, max (max (max x y) (-x)) (-y) = M := ⟨_, rfl⟩
    by_cases hbig : 0 < M ∧ 4611686018427387904 / M < k
    · exact ⟨_, muls_big hco hx hy hM hbig, fun bb off cap w hcap hlt c0 c1 => qplain_33_big k s x y bb off cap w hcap hlt c0 c1 hx hy M hM hk.1 hk.2 hbig⟩
    · obtain ⟨m0, m1, m2⟩ := muls_small hk.1.1 hM hbig
      exact ⟨_, ends_fin (v33 hco hx m1) (v33 hco hy m2), fun bb off cap w hcap hlt c0 c1 => qplain_33 k s x y bb off cap w hcap hlt c0 c1 hx hy M hM hk.1 hk.2 hbig (muls_bd hk.1.1 m1) (muls_bd hk.1.1 m2)⟩

/-- Three spans. -/
theorem qthree_any (op k s a b c d e f : Int) (ho : ar op = 3) (h1 : whB a b = true) (h2 : whB c d = true) (h3 : whB e f = true) :
    ∃ Z, finZ Z = finZ (reckZ op k s [(a, b), (c, d), (e, f)]) ∧ ∀ (bb off cap : Nat) (w : World), 3 ≤ cap → bb < w.heap.size → w.cell? ⟨bb, off, none⟩ = some (.int .i64 a) → w.cell? ⟨bb, off + 1, none⟩ = some (.int .i64 b) →
      w.cell? ⟨bb, off + 2, none⟩ = some (.int .i64 c) → w.cell? ⟨bb, off + 2 + 1, none⟩ = some (.int .i64 d) → w.cell? ⟨bb, off + 4, none⟩ = some (.int .i64 e) → w.cell? ⟨bb, off + 4 + 1, none⟩ = some (.int .i64 f) →
      Calls Tryz.prog 53 #[.int .i64 op, .int .i64 k, .int .i64 s, .slice (some ⟨bb, off, none⟩) 3 cap] w fun r w' => r = .returned (spV Z) ∧ Below w.heap.size w w' := by
  obtain ⟨hab, A1, A2, B1, B2⟩ := whB_iff.1 h1
  obtain ⟨hcd, C1, C2, D1, D2⟩ := whB_iff.1 h2
  obtain ⟨hef, E1, E2, F1, F2⟩ := whB_iff.1 h3
  have ha : W32 a := ⟨A1, A2⟩
  have hb : W32 b := ⟨B1, B2⟩
  have hc : W32 c := ⟨C1, C2⟩
  have hd : W32 d := ⟨D1, D2⟩
  have he : W32 e := ⟨E1, E2⟩
  have hf : W32 f := ⟨F1, F2⟩
  have f1 : fsts [(a, b), (c, d), (e, f)] = [a, c, e] := rfl
  have f2 : snds [(a, b), (c, d), (e, f)] = [b, d, f] := rfl
  have hr := inB_iff.1 (three_cases ho)
  rcases (show op = 26 ∨ op = 27 ∨ op = 28 by omega) with rfl | rfl | rfl
  · rw [rk_ends (by simp)]
    refine ⟨_, ?_, fun bb off cap w hcap hlt c0 c1 c2 c3 c4 c5 => qplain_26 k s a b c d e f bb off cap w hcap hlt c0 c1 c2 c3 c4 c5⟩
    rw [v26 ha hc he, v26 hb hd hf]
    exact ends_fin (by rw [f1, ← ifwd (wd_iff.2 (by omega))]; exact v26 ha hc he) (by rw [f2, ← ifwd (wd_iff.2 (by omega))]; exact v26 hb hd hf)
  · rw [rk_ends (by simp)]
    refine ⟨_, ?_, fun bb off cap w hcap hlt c0 c1 c2 c3 c4 c5 => qplain_27 k s a b c d e f bb off cap w hcap hlt c0 c1 c2 c3 c4 c5⟩
    rw [v27 ha hc he, v27 hb hd hf]
    exact ends_fin (by rw [f1, ← ifwd (wd_iff.2 (by omega))]; exact v27 ha hc he) (by rw [f2, ← ifwd (wd_iff.2 (by omega))]; exact v27 hb hd hf)
  · rw [rk_three rfl, ← sel28 hcd hef]
    exact ⟨_, rfl, fun bb off cap w hcap hlt c0 c1 c2 c3 c4 c5 => qplain_28 k s a b c d e f bb off cap w hcap hlt c0 c1 c2 c3 c4 c5⟩

theorem qplain_any (op k s : Int) (a : Option Addr) (n cap : Nat) (L : List (Int × Int)) (hm : smayB op k s L = true) :
    ∃ Z, finZ Z = finZ (reckZ op k s L) ∧ ∀ W, Spans W a n cap L → Calls Tryz.prog 53 #[.int .i64 op, .int .i64 k, .int .i64 s, .slice a n cap] W fun r w' => r = .returned (spV Z) ∧ Below W.heap.size W w' := by
  obtain ⟨m2, m1, m3, m4, m5⟩ := smay_inv hm
  match L, m2, m4 with
  | [(x, y)], m2, m4 =>
    obtain ⟨Z, hZ, hP⟩ := qone_any op k s x y (by simpa using m2.symm) m3 (m4 (x, y) (by simp))
    refine ⟨Z, hZ, fun W h => ?_⟩
    have hl : 1 = n := h.len
    subst hl
    obtain ⟨b, off, rfl, hlt, hc⟩ := h.at (by omega)
    obtain ⟨d0, d1⟩ := hc 0 (by simp)
    simp at d0 d1
    exact hP b off cap W h.le hlt d0 d1
  | [(x0, y0), (x1, y1)], m2, m4 =>
    have ho : ar op = 2 := by simpa using m2.symm
    obtain ⟨Z, hZ, hP⟩ := qpaired_any op k s x0 y0 x1 y1 ho (m4 (x0, y0) (by simp)) (m4 (x1, y1) (by simp))
    refine ⟨Z, hZ, fun W h => ?_⟩
    have hl : 2 = n := h.len
    subst hl
    obtain ⟨b, off, rfl, hlt, hc⟩ := h.at (by omega)
    obtain ⟨d0, d1⟩ := hc 0 (by simp)
    obtain ⟨d2, d3⟩ := hc 1 (by simp)
    simp at d0 d1 d2 d3
    exact qplain_two k s x0 y0 x1 y1 b off cap W h.le hlt d0 d1 d2 d3 op Z (inB_iff.1 (two_cases ho)) hP
  | [(x0, y0), (x1, y1), (x2, y2)], m2, m4 =>
    obtain ⟨Z, hZ, hP⟩ := qthree_any op k s x0 y0 x1 y1 x2 y2 (by simpa using m2.symm) (m4 (x0, y0) (by simp)) (m4 (x1, y1) (by simp)) (m4 (x2, y2) (by simp))
    refine ⟨Z, hZ, fun W h => ?_⟩
    have hl : 3 = n := h.len
    subst hl
    obtain ⟨b, off, rfl, hlt, hc⟩ := h.at (by omega)
    obtain ⟨d0, d1⟩ := hc 0 (by simp)
    obtain ⟨d2, d3⟩ := hc 1 (by simp)
    obtain ⟨d4, d5⟩ := hc 2 (by simp)
    simp at d0 d1 d2 d3 d4 d5
    exact hP b off cap W h.le hlt d0 d1 d2 d3 d4 d5
  | [], m2, m4 => simp at m2; omega
  | _ :: _ :: _ :: _ :: _, m2, m4 => simp at m5

end Go.Proofs.YtihbhbeaihdgnaaGreat.Spn

/-
  The document's own Of, over its plain.
-/
namespace Go.Proofs.YtihbhbeaihdgnaaGreat.Spn
open Go.RowKit Go.IntWalk Go.Sort
set_option linter.unusedVariables false

set_option maxRecDepth 100000 in
set_option maxHeartbeats 2000000 in
theorem qof_core (op k s : Int) (a : Option Addr) (n cap : Nat) (L : List (Int × Int)) (w : World) (h : Spans w a n cap L)
    (HP : smayB op k s L = true → ∃ Z, finZ Z = finZ (reckZ op k s L) ∧ ∀ W, Spans W a n cap L → Calls Tryz.prog 53 #[.int .i64 op, .int .i64 k, .int .i64 s, .slice a n cap] W fun r w' => r = .returned (spV Z) ∧ Below W.heap.size W w') :
    Calls Tryz.prog 24 #[.int .i64 op, .int .i64 k, .int .i64 s, .slice a n cap] w fun r w' => r = .returned (spV (ofZ op k s L)) ∧ Below w.heap.size w w' := by
  have HR := hide (HasC.new w 74 #[.int .i64 0, .int .i64 0])
  have HB := hide (bel1 w (cs 0 0))
  have hl := h.len
  have hm1 : n ≤ 9223372036854775807 := by have := h.le; have := h.max; unfold maxLen at this; omega
  by_cases h1 : ar op < 1
  · have hm : smayB op k s L = false := by simp [smayB]; omega
    rw [show ofZ op k s L = ((0, 0), 1) by simp [ofZ, hm]]
    clear hl h HP hm
    obtain ⟨s1, s2, s3, s4⟩ := facts2 HR.out
    go_enter Tryz.func24, Tryz.ntmps24
    go_wp2_with (first | (go_at_call 50; refine (rarity_any _ _).mono ?_; rintro e' w' ⟨rfl, rfl⟩) | (go_at_call 51; refine (rconstants_any _ _ _ _).mono ?_; rintro e' w' ⟨rfl, rfl⟩))
    exact bodyPost_ret (v := .tuple #[.agg #[.int .i64 0, .int .i64 0], .int .i64 1]) (by simp [results, Tryz.results24, go_sem, s1, s2]) rfl ⟨rfl, HB.out⟩
  by_cases h2 : (n : Int) = ar op
  · have h2' : ((n : Int) != ar op) = false := by simp [h2]
    cases hc : cons op k s
    · have hm : smayB op k s L = false := by simp [smayB, hc]
      rw [show ofZ op k s L = ((0, 0), 1) by simp [ofZ, hm]]
      clear h2
      clear hl h HP hm
      obtain ⟨s1, s2, s3, s4⟩ := facts2 HR.out
      go_enter Tryz.func24, Tryz.ntmps24
      go_wp2_with (first | (go_at_call 50; refine (rarity_any _ _).mono ?_; rintro e' w' ⟨rfl, rfl⟩) | (go_at_call 51; refine (rconstants_any _ _ _ _).mono ?_; rintro e' w' ⟨rfl, rfl⟩))
      exact bodyPost_ret (v := .tuple #[.agg #[.int .i64 0, .int .i64 0], .int .i64 1]) (by simp [results, Tryz.results24, go_sem, s1, s2]) rfl ⟨rfl, HB.out⟩
    · have HMay : Hid (smayB op k s L = L.all whP) := hide (by simp [smayB, hc, hl, h2]; omega)
      have HL := hide hl
      have H := hide h
      have HPl := hide HP
      clear hl h2 h HP
      go_enter Tryz.func24, Tryz.ntmps24
      go_wp2_with (first | (go_at_call 50; refine (rarity_any _ _).mono ?_; rintro e' w' ⟨rfl, rfl⟩) | (go_at_call 51; refine (rconstants_any _ _ _ _).mono ?_; rintro e' w' ⟨rfl, rfl⟩))
      have HR0 := hide HR.out
      have HB0 := hide HB.out
      go_loopw [10] (fun i wr => ∃ j : Nat, j ≤ n ∧ i = .int .i64 j ∧ (L.take j).all whP = true ∧ HasC wr w.heap.size 74 #[.int .i64 0, .int .i64 0] ∧ Below w.heap.size w wr) (fun i _ => n - (intOf i).toNat)
      case atStart => exact ⟨0, Nat.zero_le _, rfl, rfl, HR0.out, HB0.out⟩
      case round =>
        rename_i wr
        obtain ⟨j, hj, rfl, hA, hR, hB⟩ := hrel
        have HA := hide hA
        have HR := hide hR
        have HB := hide hB
        clear hA hB hR HR0 HB0
        by_cases hlt : j < n
        · obtain ⟨bb, off, rfl, hbb, hcell⟩ := (H.out.later HB.out).at (by omega)
          obtain ⟨g1, g2⟩ := hcell j hlt
          clear hcell
          obtain ⟨⟨x, y⟩, hxy⟩ : ∃ p, L.getD j (0, 0) = p := ⟨_, rfl⟩
          rw [hxy] at g1 g2
          have HXY := hide hxy
          clear hxy
          have hj0 : (0 : Int) ≤ (j : Int) := by omega
          have hj1 : (j : Int) < (n : Int) := by omega
          have HWh := fun w => hide (rwhole_any x y w)
          cases hx : whB x y
          · rw [hx] at HWh
            have hm : smayB op k s L = false := by
              rw [HMay.out, List.all_eq_false]
              refine ⟨(x, y), ?_, by simp [whP, hx]⟩
              rw [← HXY.out]
              simp [List.getD, HL.out, hlt]
            have HO : Hid (ofZ op k s L = ((0, 0), 1)) := hide (by simp [ofZ, hm])
            clear hm
            go_wp2_with fail
            refine (HWh _).out.mono ?_
            rintro e w2 ⟨rfl, hb2⟩
            have hR2 := HR.out.below hb2
            have hB2 := bel HB.out hb2
            obtain ⟨s1, s2, s3, s4⟩ := facts2 hR2
            clear hb2
            go_wp2_with fail
            obtain ⟨d0, d1, hB4⟩ := stored2 hR2 hB2 (by omega) 0 0
            exact bodyPost_ret (v := .tuple #[.agg #[.int .i64 0, .int .i64 0], .int .i64 1]) (by simp [results, Tryz.results24, go_sem, d0, d1]) rfl ⟨by rw [HO.out], hB4⟩
          · rw [hx] at HWh
            go_wp2_with fail
            refine (HWh _).out.mono ?_
            rintro e w2 ⟨rfl, hb2⟩
            have HR2 := hide (HR.out.below hb2)
            have HB2 := hide (bel HB.out hb2)
            clear hb2
            go_wp2_with fail
            go_roundw
            case rel => exact ⟨j + 1, by omega, by go_num, all_take_succ' (by rw [HL.out]; exact hlt) HA.out HXY.out hx, HR2.out, HB2.out⟩
            case measure => simp [intOf]; omega
        · have hA := HA.out
          rw [List.take_of_length_le (by rw [HL.out]; omega)] at hA
          have hm : smayB op k s L = true := by rw [HMay.out]; exact hA
          obtain ⟨⟨⟨x, y⟩, e⟩, hZ, hP⟩ := HPl.out hm
          have HO0 : ofZ op k s L = finZ ((x, y), e) := by rw [hZ]; simp [ofZ, hm]
          have HPw := hide (hP wr (H.out.later HB.out))
          clear hP hZ hm hA HPl HMay HL H
          by_cases he : e = 0
          · subst he
            have HWh := fun w => hide (rwhole_any x y w)
            cases hx : whB x y
            · have HO := hide (HO0.trans (show finZ ((x, y), 0) = ((0, 0), 13) by simp [finZ, hx]))
              clear HO0
              rw [hx] at HWh
              go_wp2_with fail
              refine HPw.out.mono ?_
              rintro e w3 ⟨rfl, hb3⟩
              have HR3 := hide (HR.out.below hb3)
              have HB3 := hide (bel HB.out hb3)
              clear hb3
              go_wp2_with fail
              refine (HWh _).out.mono ?_
              rintro e w4 ⟨rfl, hb4⟩
              have hR := (HR3.out.alloc (cs x y)).below hb4
              have hB := bel (bel HB3.out (bel1 _ _)) hb4
              obtain ⟨s1, s2, s3, s4⟩ := facts2 hR
              clear hb4
              go_wp2_with fail
              obtain ⟨d0, d1, hB4⟩ := stored2 hR hB (by omega) 0 0
              exact bodyPost_ret (v := .tuple #[.agg #[.int .i64 0, .int .i64 0], .int .i64 13]) (by simp [results, Tryz.results24, go_sem, d0, d1]) rfl ⟨by rw [HO.out], hB4⟩
            · have HO := hide (HO0.trans (show finZ ((x, y), 0) = ((x, y), 0) by simp [finZ, hx]))
              clear HO0
              rw [hx] at HWh
              go_wp2_with fail
              refine HPw.out.mono ?_
              rintro e w3 ⟨rfl, hb3⟩
              have HR3 := hide (HR.out.below hb3)
              have HB3 := hide (bel HB.out hb3)
              clear hb3
              go_wp2_with fail
              refine (HWh _).out.mono ?_
              rintro e w4 ⟨rfl, hb4⟩
              have hR := (HR3.out.alloc (cs x y)).below hb4
              have hN := (HasC.new w3 74 #[.int .i64 x, .int .i64 y]).below hb4
              have hB := bel (bel HB3.out (bel1 _ _)) hb4
              obtain ⟨s1, s2, s3, s4⟩ := facts2 hR
              obtain ⟨n1, n2, -, -⟩ := facts2 hN
              clear hb4
              go_wp2_with fail
              obtain ⟨d0, d1, hB4⟩ := stored2 hR hB (by omega) x y
              exact bodyPost_ret (v := .tuple #[.agg #[.int .i64 x, .int .i64 y], .int .i64 0]) (by simp [results, Tryz.results24, go_sem, d0, d1]) rfl ⟨by rw [HO.out], hB4⟩
          · have HO := hide (HO0.trans (show finZ ((x, y), e) = ((0, 0), e) by simp [finZ, he]))
            clear HO0
            have he' : (e != 0) = true := by simp [he]
            clear he
            go_wp2_with fail
            refine HPw.out.mono ?_
            rintro e' w3 ⟨rfl, hb3⟩
            have hR := (HR.out.below hb3).alloc (cs x y)
            have hB := bel (bel HB.out hb3) (bel1 _ (cs x y))
            obtain ⟨s1, s2, s3, s4⟩ := facts2 hR
            clear hb3
            go_wp2_with fail
            obtain ⟨d0, d1, hB4⟩ := stored2 hR hB (by omega) 0 0
            exact bodyPost_ret (v := .tuple #[.agg #[.int .i64 0, .int .i64 0], .int .i64 e]) (by simp [results, Tryz.results24, go_sem, d0, d1]) rfl ⟨by rw [HO.out], hB4⟩
  · have h2' : ((n : Int) != ar op) = true := by simp [h2]
    have hm : smayB op k s L = false := by simp [smayB, hl, h2]
    rw [show ofZ op k s L = ((0, 0), 1) by simp [ofZ, hm]]
    clear h2
    clear hl h HP hm
    obtain ⟨s1, s2, s3, s4⟩ := facts2 HR.out
    go_enter Tryz.func24, Tryz.ntmps24
    go_wp2_with (first | (go_at_call 50; refine (rarity_any _ _).mono ?_; rintro e' w' ⟨rfl, rfl⟩) | (go_at_call 51; refine (rconstants_any _ _ _ _).mono ?_; rintro e' w' ⟨rfl, rfl⟩))
    exact bodyPost_ret (v := .tuple #[.agg #[.int .i64 0, .int .i64 0], .int .i64 1]) (by simp [results, Tryz.results24, go_sem, s1, s2]) rfl ⟨rfl, HB.out⟩

end Go.Proofs.YtihbhbeaihdgnaaGreat.Spn

/-
  The document's Of.
-/
namespace Go.Proofs.YtihbhbeaihdgnaaGreat.Spn
open Go.RowKit Go.IntWalk Go.Sort
set_option linter.unusedVariables false

theorem qof_any (op k s : Int) (a : Option Addr) (n cap : Nat) (L : List (Int × Int)) (w : World) (h : Spans w a n cap L) :
    Calls Tryz.prog 24 #[.int .i64 op, .int .i64 k, .int .i64 s, .slice a n cap] w fun r w' => r = .returned (spV (ofZ op k s L)) ∧ Below w.heap.size w w' :=
  qof_core op k s a n cap L w h fun hm => qplain_any op k s a n cap L hm

end Go.Proofs.YtihbhbeaihdgnaaGreat.Spn
