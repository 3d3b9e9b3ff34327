/-
  The walk of LexTokens.
-/
import Derived.Test.YtnkdbkmghfmpgaaRTokens
import Derived.Test.YtnkdbkmghfmpgaaPure3
namespace Go.Proofs.Ytnkdbkmghfmpgaa
open Go.RowKit Go.IntWalk Lx
set_option linter.unusedVariables false

/-- Tokens of a text that has them. -/
theorem tokens_some {s : ByteArray} {T : List Tok} (w : World) (h : tks (bs s) = some T) : Calls Try.prog 8 #[.string s] w fun e w' => ∃ v, e = .returned (.tuple #[v, .int .i64 0]) ∧ w'.ownsRow w.heap.size 31 3 v T.length (tk64 T) ∧ Below w.heap.size w w' := by
  refine (tokens_any s w).mono ?_
  rintro e w' (⟨hn, -, -⟩ | ⟨T', v, hT, he, ho, hb⟩)
  · rw [h] at hn; cases hn
  · rw [h] at hT; cases hT
    exact ⟨v, he, ho, hb⟩
theorem rtokens_some {s : ByteArray} {T : List Tok} (w : World) (h : tks (bs s) = some T) : Calls Try.prog 9 #[.string s] w fun e w' => ∃ v, e = .returned (.tuple #[v, .int .i64 0]) ∧ w'.ownsRow w.heap.size 31 3 v T.length (tk64 T) ∧ Below w.heap.size w w' := by
  refine (rtokens_any s w).mono ?_
  rintro e w' (⟨hn, -, -⟩ | ⟨T', v, hT, he, ho, hb⟩)
  · rw [h] at hn; cases hn
  · rw [h] at hT; cases hT
    exact ⟨v, he, ho, hb⟩
theorem ftokens_none (s : ByteArray) (w : World) (h : tks (bs s) = none) : Calls Try.prog 8 #[.string s] w fun e w' => e = .returned (.tuple #[.slice none 0 0, .int .i64 10]) ∧ Below w.heap.size w w' := by
  refine (tokens_any s w).mono ?_
  rintro e w' (⟨-, h1, h2⟩ | ⟨T, v, hT, -⟩)
  · exact ⟨h1, h2⟩
  · rw [h] at hT; cases hT
theorem rtokens_none (s : ByteArray) (w : World) (h : tks (bs s) = none) : Calls Try.prog 9 #[.string s] w fun e w' => e = .returned (.tuple #[.slice none 0 0, .int .i64 10]) ∧ Below w.heap.size w w' := by
  refine (rtokens_any s w).mono ?_
  rintro e w' (⟨-, h1, h2⟩ | ⟨T, v, hT, -⟩)
  · exact ⟨h1, h2⟩
  · rw [h] at hT; cases hT
theorem toks_nil (w : World) : Toks w none 0 0 [] := ⟨rfl, Nat.le_refl _, Nat.zero_le _, fun _ => rfl, .inl rfl⟩

set_option maxHeartbeats 4000000 in
set_option maxRecDepth 100000 in
theorem tokens_walk_none (s : ByteArray) (w : World) (h : tks (bs s) = none) :
    Calls Try.prog 3 #[.string s] w fun e w' => e = .returned (.bool true) ∧ Below w.heap.size w w' := by
  have HF := hide fun w => ftokens_none s w h
  have HR := hide fun w => rtokens_none s w h
  have HS := hide fun w => same_self none none 0 0 0 [] w (toks_nil w) (toks_nil w)
  clear h
  go_enter Try.func3, Try.ntmps3
  go_wp2_with fail
  refine (HF.out _).mono ?_
  rintro e w1 ⟨rfl, hb1⟩
  have B1 := hide hb1
  clear hb1
  go_wp2_with fail
  refine (HR.out _).mono ?_
  rintro e w2 ⟨rfl, hb2⟩
  have B2 := hide (bel B1.out hb2)
  clear hb2 B1
  go_wp2_with fail
  refine (awake_any _).mono ?_
  rintro e w3 ⟨rfl, hb3⟩
  have B3 := hide (bel B2.out hb3)
  clear hb3 B2
  go_wp2_with fail
  refine (HS.out _).mono ?_
  rintro e w4 ⟨rfl, q, rfl⟩
  have B4 := hide (bel B3.out (below_drewN _ q))
  clear B3
  obtain ⟨W4, hW4⟩ : ∃ W, w3.drewN q = W := ⟨_, rfl⟩
  rw [hW4] at B4 ⊢
  clear hW4
  go_wp2_with fail
  refine (HF.out _).mono ?_
  rintro e w5 ⟨rfl, hb5⟩
  have B5 := hide (bel B4.out hb5)
  clear hb5 B4
  go_wp2_with fail
  go_loop [9] (fun i => i = .int .i64 0) (fun i => 0)
  case atStart => rfl
  case round =>
    subst hrel
    go_wp2_with fail
    refine (HF.out _).mono ?_
    rintro e w6 ⟨rfl, hb6⟩
    have B6 := hide (bel B5.out hb6)
    clear hb6 B5
    go_wp2_with fail
    refine (HS.out _).mono ?_
    rintro e w7 ⟨rfl, q7, rfl⟩
    have B7 := hide (bel B6.out (below_drewN _ q7))
    clear B6
    obtain ⟨W7, hW7⟩ : ∃ W, w6.drewN q7 = W := ⟨_, rfl⟩
    rw [hW7] at B7 ⊢
    clear hW7
    go_wp2_with fail
    refine (HS.out _).mono ?_
    rintro e w8 ⟨rfl, q8, rfl⟩
    have B8 := hide (bel B7.out (below_drewN _ q8))
    clear B7
    obtain ⟨W8, hW8⟩ : ∃ W, W7.drewN q8 = W := ⟨_, rfl⟩
    rw [hW8] at B8 ⊢
    clear hW8
    go_wp2_with fail
    go_ret
    exact ⟨rfl, B8.out⟩

/-- A list of tokens that a call has made, in later memory. -/
structure Mine (w W : World) (v : Value) (n : Nat) (T : List Tok) : Prop where
  a : W.ownsRow w.heap.size 31 3 v n (tk64 T)
theorem Mine.later {w W W' : World} {v : Value} {n : Nat} {T : List Tok} (h : Mine w W v n T) (hb : Below W.heap.size W W') : Mine w W' v n T := by
  have hg : W.grownBy W' none := ⟨hb.os, hb.tape, hb.output, hb.size, fun k hk _ => hb.block k hk⟩
  refine ⟨h.a.kept hg ?_⟩
  cases hv : v.ownBlock with
  | none => exact .inl rfl
  | some q => exact .inr (by simp)

/-- The row of a list of n tokens, whatever they are: block g, cur its cells. -/
structure Row (W : World) (g n cap : Nat) : Prop where
  h : ∃ cur, W.heap[g]? = some (.cells cur 31 (0, 0)) ∧ cur.size = cap * 3 ∧ n ≤ cap
theorem Row.cell {W : World} {g n cap : Nat} (h : Row W g n cap) {j : Nat} (hj : j < n * 3) : (∃ v, W.cell? ⟨g, j, none⟩ = some v) ∧ W.frozen? ⟨g, j, none⟩ = false := by
  obtain ⟨cur, hc, hs, hn⟩ := h.h
  refine ⟨⟨cur[j]'(by omega), ?_⟩, ?_⟩
  · rw [cell_of_row W g j cur 31 (0, 0) hc]
    simp
  · simp [World.frozen?, hc]
theorem Row.set {W : World} {g n cap : Nat} (h : Row W g n cap) (i : Nat) (u : Value) : Row (W.setCell ⟨g, i, none⟩ u) g n cap := by
  obtain ⟨cur, hc, hs, hn⟩ := h.h
  exact ⟨cur.setIfInBounds i u, HasC.set hc i u, by simpa using hs, hn⟩

/-- Memory in LexTokens' loop: the first list is written over, the second and the third read as before. -/
structure Lp (w W : World) (a1 a2 a3 : Option Addr) (n c1 c2 c3 : Nat) (T : List Tok) : Prop where
  row : n = 0 ∨ ∃ g, a1 = some ⟨g, 0, none⟩ ∧ w.heap.size ≤ g ∧ Row W g n c1 ∧ (∀ x, a2 = some x → x.block ≠ g) ∧ (∀ x, a3 = some x → x.block ≠ g)
  t2 : Toks W a2 n c2 T
  t3 : Toks W a3 n c3 T
  bel : Below w.heap.size w W

theorem Toks.other {W : World} {a : Option Addr} {n cap g i : Nat} {T : List Tok} (h : Toks W a n cap T) (hg : ∀ x, a = some x → x.block ≠ g) (u : Value) : Toks (W.setCell ⟨g, i, none⟩ u) a n cap T := by
  refine h.of_cells fun b off ha hn j => ?_
  exact World.cell?_of_block (a := ⟨b, j, none⟩) (Below.heap_setCell W ⟨g, i, none⟩ u b (hg _ ha))

theorem Lp.set {w W : World} {a2 a3 : Option Addr} {g n c1 c2 c3 : Nat} {T : List Tok} (h : Lp w W (some ⟨g, 0, none⟩) a2 a3 n c1 c2 c3 T) (hn : n ≠ 0) (i : Nat) (u : Value) : Lp w (W.setCell ⟨g, i, none⟩ u) (some ⟨g, 0, none⟩) a2 a3 n c1 c2 c3 T := by
  rcases h.row with h0 | ⟨g', hg', hb, hr, h2, h3⟩
  · exact absurd h0 hn
  · cases hg'
    exact ⟨.inr ⟨g, rfl, hb, hr.set i u, h2, h3⟩, h.t2.other h2 u, h.t3.other h3 u, h.bel.setCell (p := ⟨g, i, none⟩) (by exact hb) u⟩

set_option maxHeartbeats 8000000 in
set_option maxRecDepth 100000 in
theorem tokens_walk_some (s : ByteArray) (T : List Tok) (w : World) (h : tks (bs s) = some T) :
    Calls Try.prog 3 #[.string s] w fun e w' => e = .returned (.bool true) ∧ Below w.heap.size w w' := by
  have HF := hide fun w => tokens_some (s := s) w h
  have HR := hide fun w => rtokens_some (s := s) w h
  obtain ⟨hcov, hl⟩ := tks_cov h
  have hTl := cov_len T _ _ hcov
  obtain ⟨n, hn⟩ : ∃ n, T.length = n := ⟨_, rfl⟩
  rw [hn] at HF HR hTl
  have hn4 : n ≤ 1024 := by omega
  clear h hcov hl hTl hn
  go_enter Try.func3, Try.ntmps3
  go_wp2_with fail
  refine (HF.out _).mono ?_
  rintro e w1 ⟨v1, rfl, ho1, hb1⟩
  have M1 := hide (Mine.mk (w := w) ho1)
  have B1 := hide hb1
  clear hb1 ho1
  go_wp2_with fail
  refine (HR.out _).mono ?_
  rintro e w2 ⟨v2, rfl, ho2, hb2⟩
  have M2 := hide (Mine.mk (w := w1) ho2)
  have N1 := hide (M1.out.later hb2)
  have B2 := hide (bel B1.out hb2)
  clear hb2 ho2
  go_wp2_with fail
  refine (awake_any _).mono ?_
  rintro e w3 ⟨rfl, hb3⟩
  have N2 := hide (M2.out.later hb3)
  have P1 := hide (N1.out.later hb3)
  have B3 := hide (bel B2.out hb3)
  clear hb3 M2 N1 B2
  obtain ⟨a1, c1, hv1, hT1, hx1⟩ := Toks.of_owns P1.out.a
  obtain ⟨a2, c2, hv2, hT2, hx2⟩ := Toks.of_owns N2.out.a
  have hv1' := hide hv1
  subst hv1 hv2
  have HS := hide (same_self a1 a2 n c1 c2 T w3 hT1 hT2)
  have HX1 := hide hx1
  have HX2 := hide hx2
  clear hx1 hx2 hT1 hT2
  go_wp2_with fail
  refine HS.out.mono ?_
  rintro e w4 ⟨rfl, q, rfl⟩
  have P2 := hide (N2.out.later (below_drewN _ q))
  have Q1 := hide (P1.out.later (below_drewN _ q))
  have B4 := hide (bel B3.out (below_drewN _ q))
  have S4 : Hid (w3.heap.size = (w3.drewN q).heap.size) := hide rfl
  obtain ⟨W4, hW4⟩ : ∃ W, w3.drewN q = W := ⟨_, rfl⟩
  rw [hW4] at P2 Q1 B4 S4 ⊢
  clear hW4 HS B3 N2 P1
  go_wp2_with fail
  refine (HF.out _).mono ?_
  rintro e w5 ⟨v3, rfl, ho3, hb5⟩
  obtain ⟨a3, c3, hv3, hT3, hx3⟩ := Toks.of_owns ho3
  subst hv3
  have HL := hide (show Lp w w5 a1 a2 a3 n c1 c2 c3 T from ⟨by
      have o1 := (Q1.out.later hb5).a
      rcases o1.2 with ⟨e1, e2⟩ | ⟨g, cap, cur, e1, hg, hh, hnc, hcm, hsz, -⟩
      · exact .inl e2
      · simp only [Value.slice.injEq] at e1
        obtain ⟨rfl, -, rfl⟩ := e1
        have hlt : g < w1.heap.size := by
          rcases M1.out.a.2 with ⟨e3, -⟩ | ⟨g', cap', cur', e3, -, hh', -⟩
          · simp at e3
          · simp only [Value.slice.injEq, Option.some.injEq, Addr.mk.injEq, and_true] at e3
            obtain ⟨rfl, -⟩ := e3
            exact (Array.getElem?_eq_some_iff.1 hh').1
        refine .inr ⟨g, rfl, hg, ⟨cur, hh, hsz, hnc⟩, fun x hx => ?_, fun x hx => ?_⟩
        · have := (HX2.out x hx).1; omega
        · have h1 := (hx3 x hx).1
          have h2 := (HX1.out _ rfl).2
          have h3 := S4.out
          simp only at h2
          omega,
    (by
      obtain ⟨a', c', e1, h1, -⟩ := Toks.of_owns (P2.out.later hb5).a
      simp only [Value.slice.injEq, true_and] at e1
      obtain ⟨rfl, rfl⟩ := e1
      exact h1), hT3, bel B4.out hb5⟩)
  clear ho3 hb5 hT3 hx3 M1 Q1 P2 B4 S4 HX1 HX2 B1 hv1'
  go_wp2_with fail
  go_loopw [9] (fun i W => ∃ k : Nat, k ≤ n ∧ i = .int .i64 k ∧ Hid (Lp w W a1 a2 a3 n c1 c2 c3 T)) (fun i _ => n - (intOf i).toNat)
  case atStart => exact ⟨0, Nat.zero_le _, rfl, HL⟩
  case round =>
    rename World => wo
    clear HL
    obtain ⟨k, hk, rfl, HL⟩ := hrel
    by_cases hlt : k < n
    · rcases HL.out.row with h0 | ⟨g, rfl, -, hr, -, -⟩
      · omega
      obtain ⟨⟨x0, d0⟩, z0⟩ := hr.cell (j := k * 3) (by omega)
      obtain ⟨⟨x1, d1⟩, z1⟩ := hr.cell (j := k * 3 + 1) (by omega)
      obtain ⟨⟨x2, d2⟩, z2⟩ := hr.cell (j := k * 3 + 2) (by omega)
      have HL2 := hide (((HL.out.set (by omega) (k * 3) (.int .i64 9)).set (by omega) (k * 3 + 1) (.string ⟨#[]⟩)).set (by omega) (k * 3 + 2) (.int .i64 0))
      clear hr
      go_wp2_with fail
      go_roundw
      case rel => exact ⟨k + 1, by omega, by go_num, HL2⟩
      case measure => simp [intOf]; omega
    · go_wp2_with fail
      refine (HF.out _).mono ?_
      rintro e w6 ⟨v4, rfl, ho4, hb6⟩
      obtain ⟨a4, c4, hv4, hT4, -⟩ := Toks.of_owns ho4
      subst hv4
      have T4 := hide hT4
      have T2 := hide (HL.out.t2.later hb6)
      have T3 := hide (HL.out.t3.later hb6)
      have B6 := hide (bel HL.out.bel hb6)
      clear hb6 ho4 hT4 HL
      go_wp2_with fail
      refine (same_self _ _ n _ _ T _ T3.out T2.out).mono ?_
      rintro e w7 ⟨rfl, q7, rfl⟩
      have U4 := hide (T4.out.later (below_drewN _ q7))
      have U2 := hide (T2.out.later (below_drewN _ q7))
      have B7 := hide (bel B6.out (below_drewN _ q7))
      obtain ⟨W7, hW7⟩ : ∃ W, w6.drewN q7 = W := ⟨_, rfl⟩
      rw [hW7] at U4 U2 B7 ⊢
      clear hW7 T4 T2 T3 B6
      go_wp2_with fail
      refine (same_self _ _ n _ _ T _ U4.out U2.out).mono ?_
      rintro e w8 ⟨rfl, q8, rfl⟩
      have B8 := hide (bel B7.out (below_drewN _ q8))
      obtain ⟨W8, hW8⟩ : ∃ W, W7.drewN q8 = W := ⟨_, rfl⟩
      rw [hW8] at B8 ⊢
      clear hW8 U4 U2 B7
      go_wp2_with fail
      go_ret
      exact ⟨rfl, B8.out⟩

theorem tokens_walk (s : ByteArray) (w : World) (hs : s.size ≤ maxLen) :
    Calls Try.prog 3 #[.string s] w fun e w' => e = .returned (.bool true) ∧ Below w.heap.size w w' := by
  cases h : tks (bs s) with
  | none => exact tokens_walk_none s w h
  | some T => exact tokens_walk_some s T w h

end Go.Proofs.Ytnkdbkmghfmpgaa
