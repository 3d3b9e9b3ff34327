/-
  The walk of LexGlue.
-/
import Derived.Test.YtnkdbkmghfmpgaaGlueW
namespace Go.Proofs.Ytnkdbkmghfmpgaa
open Go.RowKit Go.IntWalk Lx
set_option linter.unusedVariables false

theorem gtokens_some {s : ByteArray} {T : List Tok} (w : World) (h : tks (bs s) = some T) : Calls Try.prog 8 #[.string s] w fun e w' => ∃ v, e = .returned (.tuple #[v, .int .i64 0]) ∧ w'.ownsRow w.heap.size 31 3 v T.length (tk64 T) ∧ Below w.heap.size w w' := by
  refine (tokens_any s w).mono ?_
  rintro e w' (⟨hn, -, -⟩ | ⟨T', v, hT, he, ho, hb⟩)
  · rw [h] at hn; cases hn
  · rw [h] at hT; cases hT
    exact ⟨v, he, ho, hb⟩
theorem gtokens_none (s : ByteArray) (w : World) (h : tks (bs s) = none) : Calls Try.prog 8 #[.string s] w fun e w' => e = .returned (.tuple #[.slice none 0 0, .int .i64 10]) ∧ Below w.heap.size w w' := by
  refine (tokens_any s w).mono ?_
  rintro e w' (⟨-, h1, h2⟩ | ⟨T, v, hT, -⟩)
  · exact ⟨h1, h2⟩
  · rw [h] at hT; cases hT

set_option maxHeartbeats 2000000 in
set_option maxRecDepth 100000 in
theorem glue_walk_none (s : ByteArray) (am : Option Addr) (nm cm : Nat) (w : World) (h : tks (bs s) = none) :
    Calls Try.prog 6 #[.string s, .slice am nm cm] w fun e w' => e = .returned (.bool true) ∧ Below w.heap.size w w' := by
  have HF := hide fun w => gtokens_none s w h
  clear h
  go_enter Try.func6, Try.ntmps6
  go_wp2_with fail
  refine (HF.out _).mono ?_
  rintro e w1 ⟨rfl, hb1⟩
  have B1 := hide hb1
  clear hb1
  go_wp2_with fail
  refine (awake_any _).mono ?_
  rintro e w2 ⟨rfl, hb2⟩
  have B2 := hide (bel B1.out hb2)
  clear hb2
  go_wp2_with fail
  refine (awake_any _).mono ?_
  rintro e w3 ⟨rfl, hb3⟩
  have B3 := hide (bel B2.out hb3)
  clear hb3
  go_wp2_with fail
  go_ret
  exact ⟨rfl, B3.out⟩

set_option maxHeartbeats 16000000 in
set_option maxRecDepth 100000 in
theorem glue_walk_some (s : ByteArray) (am : Option Addr) (nm cm : Nat) (zs : List Int) (T : List Tok) (w : World) (h : tks (bs s) = some T) (hM : Bytes w am nm cm zs) :
    Calls Try.prog 6 #[.string s, .slice am nm cm] w fun e w' => e = .returned (.bool true) ∧ Below w.heap.size w w' := by
  have HF := hide fun w => gtokens_some (s := s) w h
  obtain ⟨hcov, hl⟩ := tks_cov h
  have hTl := cov_len T _ _ hcov
  have HTx := hide (cov_text T _ _ hcov)
  have HH := hide h
  obtain ⟨n, hn⟩ : ∃ n, T.length = n := ⟨_, rfl⟩
  rw [hn] at HF hTl
  have Hn := hide hn
  have hn4 : n ≤ 1024 := by omega
  have Hl := hide hl
  have hnm : nm ≤ 9223372036854775807 := by have := hM.le; have := hM.max; unfold maxLen at this; omega
  clear h hcov hl hTl hn
  go_enter Try.func6, Try.ntmps6
  go_wp2_with fail
  refine (HF.out _).mono ?_
  rintro e w1 ⟨v1, rfl, ho1, hb1⟩
  obtain ⟨a1, c1, hv1, hT1, -⟩ := Toks.of_owns ho1
  subst hv1
  have K1 := hide hT1
  have M1 := hide (hM.later hb1)
  have B1 := hide hb1
  clear hb1 ho1 hT1 hM HF
  go_wp2_with fail
  refine (awake_any _).mono ?_
  rintro e w2 ⟨rfl, hb2⟩
  have K2 := hide (K1.out.later hb2)
  have M2 := hide (M1.out.later hb2)
  have B2 := hide (bel B1.out hb2)
  clear hb2 K1 M1 B1
  go_wp2_with fail
  go_loop [7, 8] (fun x i => ∃ k : Nat, k ≤ n ∧ i = .int .i64 k ∧ x = .string (sB (glue (gl zs T k))) ∧ Hid ((glue (gl zs T k)).length ≤ k * 1035)) (fun _ i => n - (intOf i).toNat)
  case atStart => exact ⟨0, Nat.zero_le _, rfl, rfl, hide (Nat.le_refl 0)⟩
  case round =>
    obtain ⟨k, hk, rfl, rfl, hG⟩ := hrel
    by_cases hlt : k < n
    · rcases K2.out.cell with h0 | ⟨b0, off, rfl, hcells⟩
      · omega
      obtain ⟨c0, c2, c3⟩ := hcells k hlt
      clear c0 c3 hcells
      have hsx := hide (glue_succ zs T k)
      have hXl : (T.getD k t0).text.length ≤ 1024 := Nat.le_trans (HTx.out _ (getD_mem (by rw [Hn.out]; exact hlt))) Hl.out
      generalize (T.getD k t0).text = X at *
      obtain ⟨G, hGG⟩ : ∃ G, glue (gl zs T k) = G := ⟨_, rfl⟩
      rw [hGG] at hG hsx ⊢
      clear hGG
      have hGl : G.length ≤ 1059840 := Nat.le_trans hG.out (by omega)
      have hway : (bw zs k = [32] ∧ nm ≤ k) ∨ (bw zs k = [32] ∧ k < nm ∧ zs.getD k 0 % 3 = 0) ∨ (bw zs k = [9, 10, 32] ∧ k < nm ∧ zs.getD k 0 % 3 = 1) ∨ (bw zs k = [32, 35, 32, 255, 32, 97, 32, 60, 32, 98, 10] ∧ k < nm ∧ zs.getD k 0 % 3 = 2) := by
        have hzl := M2.out.len
        unfold bw
        rw [hzl]
        by_cases h1 : k < nm
        · rcases (show zs.getD k 0 % 3 = 0 ∨ zs.getD k 0 % 3 = 1 ∨ zs.getD k 0 % 3 = 2 by omega) with h | h | h
          · right; left; rw [if_neg (by omega), if_neg (by omega)]; exact ⟨rfl, h1, h⟩
          · right; right; left; rw [if_neg (by omega), if_pos ⟨h1, h⟩]; exact ⟨rfl, h1, h⟩
          · right; right; right; rw [if_pos ⟨h1, h⟩]; exact ⟨rfl, h1, h⟩
        · left; rw [if_neg (by omega), if_neg (by omega)]; exact ⟨rfl, by omega⟩
      rcases hway with ⟨hb, hkm⟩ | ⟨hb, hkm, hz⟩ | ⟨hb, hkm, hz⟩ | ⟨hb, hkm, hz⟩
      · rw [hb] at hsx
        have hs2 := hide (show glue (gl zs T (k + 1)) = G ++ [32] ++ X from hsx.out)
        have ha1 : ∀ W, (Op.stringOp .add (sB G) ⟨#[32]⟩).run Try.prog W = .ok (.string (sB (G ++ [32]))) W := fun W => add_sB G [32] W (by simp only [List.length_cons, List.length_nil]; omega)
        have ha2 : ∀ W, (Op.stringOp .add (sB (G ++ [32])) (sB X)).run Try.prog W = .ok (.string (sB (G ++ [32] ++ X))) W := fun W => add_sB _ _ W (by simp only [List.length_append, List.length_cons, List.length_nil]; omega)
        have hlen : (G ++ [32] ++ X).length ≤ (k + 1) * 1035 := by
          have := hG.out
          simp only [List.length_append, List.length_cons, List.length_nil]
          omega
        rw [← hs2.out] at hlen
        obtain ⟨G1, hG1⟩ : ∃ A, sB (G ++ [32]) = A := ⟨_, rfl⟩
        rw [hG1] at ha1 ha2
        obtain ⟨G2, hG2⟩ : ∃ A, sB (G ++ [32] ++ X) = A := ⟨_, rfl⟩
        rw [hG2] at ha2
        have HG2 := hide (show G2 = sB (glue (gl zs T (k + 1))) by rw [hs2.out, hG2])
        clear hG1 hG2 hb hsx hs2
        go_wp2_with fail
        go_round
        case rel => exact ⟨k + 1, by omega, by go_num, by rw [HG2.out], hide hlen⟩
        case measure => simp [intOf]; omega
      · rw [hb] at hsx
        have hs2 := hide (show glue (gl zs T (k + 1)) = G ++ [32] ++ X from hsx.out)
        have ha1 : ∀ W, (Op.stringOp .add (sB G) ⟨#[32]⟩).run Try.prog W = .ok (.string (sB (G ++ [32]))) W := fun W => add_sB G [32] W (by simp only [List.length_cons, List.length_nil]; omega)
        have ha2 : ∀ W, (Op.stringOp .add (sB (G ++ [32])) (sB X)).run Try.prog W = .ok (.string (sB (G ++ [32] ++ X))) W := fun W => add_sB _ _ W (by simp only [List.length_append, List.length_cons, List.length_nil]; omega)
        have hlen : (G ++ [32] ++ X).length ≤ (k + 1) * 1035 := by
          have := hG.out
          simp only [List.length_append, List.length_cons, List.length_nil]
          omega
        rw [← hs2.out] at hlen
        obtain ⟨G1, hG1⟩ : ∃ A, sB (G ++ [32]) = A := ⟨_, rfl⟩
        rw [hG1] at ha1 ha2
        obtain ⟨G2, hG2⟩ : ∃ A, sB (G ++ [32] ++ X) = A := ⟨_, rfl⟩
        rw [hG2] at ha2
        have HG2 := hide (show G2 = sB (glue (gl zs T (k + 1))) by rw [hs2.out, hG2])
        clear hG1 hG2 hb hsx hs2
        obtain ⟨mb, mo, rfl, -, hm1⟩ := M2.out.at (by omega)
        have m1 := hm1 k hkm
        obtain ⟨y1, y2⟩ := getD_byte M2.out.byte k
        clear hm1
        generalize zs.getD k 0 = z at hz m1 y1 y2
        go_wp2_with fail
        go_round
        case rel => exact ⟨k + 1, by omega, by go_num, by rw [HG2.out], hide hlen⟩
        case measure => simp [intOf]; omega
      · rw [hb] at hsx
        have hs2 := hide (show glue (gl zs T (k + 1)) = G ++ [9, 10, 32] ++ X from hsx.out)
        have ha1 : ∀ W, (Op.stringOp .add (sB G) ⟨#[9, 10, 32]⟩).run Try.prog W = .ok (.string (sB (G ++ [9, 10, 32]))) W := fun W => add_sB G [9, 10, 32] W (by simp only [List.length_cons, List.length_nil]; omega)
        have ha2 : ∀ W, (Op.stringOp .add (sB (G ++ [9, 10, 32])) (sB X)).run Try.prog W = .ok (.string (sB (G ++ [9, 10, 32] ++ X))) W := fun W => add_sB _ _ W (by simp only [List.length_append, List.length_cons, List.length_nil]; omega)
        have hlen : (G ++ [9, 10, 32] ++ X).length ≤ (k + 1) * 1035 := by
          have := hG.out
          simp only [List.length_append, List.length_cons, List.length_nil]
          omega
        rw [← hs2.out] at hlen
        obtain ⟨G1, hG1⟩ : ∃ A, sB (G ++ [9, 10, 32]) = A := ⟨_, rfl⟩
        rw [hG1] at ha1 ha2
        obtain ⟨G2, hG2⟩ : ∃ A, sB (G ++ [9, 10, 32] ++ X) = A := ⟨_, rfl⟩
        rw [hG2] at ha2
        have HG2 := hide (show G2 = sB (glue (gl zs T (k + 1))) by rw [hs2.out, hG2])
        clear hG1 hG2 hb hsx hs2
        obtain ⟨mb, mo, rfl, -, hm1⟩ := M2.out.at (by omega)
        have m1 := hm1 k hkm
        obtain ⟨y1, y2⟩ := getD_byte M2.out.byte k
        clear hm1
        generalize zs.getD k 0 = z at hz m1 y1 y2
        go_wp2_with fail
        go_round
        case rel => exact ⟨k + 1, by omega, by go_num, by rw [HG2.out], hide hlen⟩
        case measure => simp [intOf]; omega
      · rw [hb] at hsx
        have hs2 := hide (show glue (gl zs T (k + 1)) = G ++ [32, 35, 32, 255, 32, 97, 32, 60, 32, 98, 10] ++ X from hsx.out)
        have ha1 : ∀ W, (Op.stringOp .add (sB G) ⟨#[32, 35, 32, 255, 32, 97, 32, 60, 32, 98, 10]⟩).run Try.prog W = .ok (.string (sB (G ++ [32, 35, 32, 255, 32, 97, 32, 60, 32, 98, 10]))) W := fun W => add_sB G [32, 35, 32, 255, 32, 97, 32, 60, 32, 98, 10] W (by simp only [List.length_cons, List.length_nil]; omega)
        have ha2 : ∀ W, (Op.stringOp .add (sB (G ++ [32, 35, 32, 255, 32, 97, 32, 60, 32, 98, 10])) (sB X)).run Try.prog W = .ok (.string (sB (G ++ [32, 35, 32, 255, 32, 97, 32, 60, 32, 98, 10] ++ X))) W := fun W => add_sB _ _ W (by simp only [List.length_append, List.length_cons, List.length_nil]; omega)
        have hlen : (G ++ [32, 35, 32, 255, 32, 97, 32, 60, 32, 98, 10] ++ X).length ≤ (k + 1) * 1035 := by
          have := hG.out
          simp only [List.length_append, List.length_cons, List.length_nil]
          omega
        rw [← hs2.out] at hlen
        obtain ⟨G1, hG1⟩ : ∃ A, sB (G ++ [32, 35, 32, 255, 32, 97, 32, 60, 32, 98, 10]) = A := ⟨_, rfl⟩
        rw [hG1] at ha1 ha2
        obtain ⟨G2, hG2⟩ : ∃ A, sB (G ++ [32, 35, 32, 255, 32, 97, 32, 60, 32, 98, 10] ++ X) = A := ⟨_, rfl⟩
        rw [hG2] at ha2
        have HG2 := hide (show G2 = sB (glue (gl zs T (k + 1))) by rw [hs2.out, hG2])
        clear hG1 hG2 hb hsx hs2
        obtain ⟨mb, mo, rfl, -, hm1⟩ := M2.out.at (by omega)
        have m1 := hm1 k hkm
        obtain ⟨y1, y2⟩ := getD_byte M2.out.byte k
        clear hm1
        generalize zs.getD k 0 = z at hz m1 y1 y2
        go_wp2_with fail
        go_round
        case rel => exact ⟨k + 1, by omega, by go_num, by rw [HG2.out], hide hlen⟩
        case measure => simp [intOf]; omega
    · obtain rfl : k = n := by omega
      obtain ⟨F, hF⟩ : ∃ F, glue (gl zs T k) = F := ⟨_, rfl⟩
      rw [hF] at hG ⊢
      have hFs : (sB F).size = F.length := by rw [← bs_len]
      have hFl : F.length ≤ 1059840 := Nat.le_trans hG.out (by omega)
      by_cases hbig : 1024 < F.length
      · have HN := hide fun w => gtokens_none (sB F) w (by unfold tks; rw [bs_sB, if_pos hbig])
        clear hG hF
        go_wp2_with fail
        refine (HN.out _).mono ?_
        rintro e w3 ⟨rfl, hb3⟩
        have B3 := hide (bel B2.out hb3)
        clear hb3
        go_wp2_with fail
        go_ret
        exact ⟨rfl, B3.out⟩
      · obtain ⟨T', hT', hl', hi'⟩ := tks_glue zs HH.out (by rw [Hn.out, hF]; omega)
        rw [Hn.out, hF] at hT'
        rw [Hn.out] at hl' hi'
        have HN := hide fun w => gtokens_some (s := sB F) (T := T') w hT'
        rw [hl'] at HN
        have HI := hide hi'
        clear hT' hl' hi' hG hF
        go_wp2_with fail
        refine (HN.out _).mono ?_
        rintro e w3 ⟨v3, rfl, ho3, hb3⟩
        obtain ⟨a3, c3, hv3, hT3, -⟩ := Toks.of_owns ho3
        subst hv3
        have K3 := hide hT3
        have L3 := hide (K2.out.later hb3)
        have B3 := hide (bel B2.out hb3)
        clear hb3 ho3 hT3 K2 M2 B2 HN
        go_wp2_with fail
        go_loopw [12] (fun i wr => ∃ j q : Nat, j ≤ k ∧ i = .int .i64 j ∧ wr = w3.drewN q) (fun i _ => k - (intOf i).toNat)
        case atStart => exact ⟨0, 0, Nat.zero_le _, rfl, rfl⟩
        case round =>
          obtain ⟨j, q, hj, rfl, rfl⟩ := hrel
          by_cases hjl : j < k
          · obtain ⟨b1, o1, rfl, -, hc1⟩ := L3.out.at (by omega)
            obtain ⟨b2, o2, rfl, -, hc2⟩ := K3.out.at (by omega)
            obtain ⟨g1, g2, -⟩ := hc1 j hjl
            obtain ⟨f1, f2, -⟩ := hc2 j hjl
            obtain ⟨e1, e2⟩ := HI.out j hjl
            rw [e1] at f1
            rw [e2] at f2
            clear hc1 hc2 e1 e2
            generalize (T.getD j t0).kind = K at *
            generalize sB (T.getD j t0).text = X at *
            go_wp2_with fail
            go_quiet (fail)
            go_wp2_with fail
            go_roundw
            case rel => exact ⟨j + 1, _, by omega, by go_num, rfl⟩
            case measure => simp [intOf]; omega
          · go_wp2_with fail
            go_ret
            exact ⟨rfl, bel B3.out (below_drewN _ _)⟩

theorem glue_walk (s : ByteArray) (am : Option Addr) (nm cm : Nat) (zs : List Int) (w : World) (hs : s.size ≤ maxLen) (hM : Bytes w am nm cm zs) :
    Calls Try.prog 6 #[.string s, .slice am nm cm] w fun e w' => e = .returned (.bool true) ∧ Below w.heap.size w w' := by
  cases h : tks (bs s) with
  | none => exact glue_walk_none s am nm cm w h
  | some T => exact glue_walk_some s am nm cm zs T w h hM

end Go.Proofs.Ytnkdbkmghfmpgaa
