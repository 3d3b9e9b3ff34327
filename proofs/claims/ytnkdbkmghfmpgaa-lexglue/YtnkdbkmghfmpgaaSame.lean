/-
  The document's Same: two lists that read as the same tokens are alike.
-/
import Derived.Test.YtnkdbkmghfmpgaaAwake
import Derived.Deep.QuietTactic
import Derived.BigQuiet
namespace Go.Proofs.Ytnkdbkmghfmpgaa
open Go.RowKit Go.IntWalk Lx
set_option linter.unusedVariables false

theorem below_drewN (w : World) (q : Nat) : Below w.heap.size w (w.drewN q) := ⟨rfl, rfl, rfl, Nat.le_refl _, fun _ _ => rfl⟩

theorem Toks.at {w : World} {a : Option Addr} {n cap : Nat} {T : List Tok} (h : Toks w a n cap T) (hn : n ≠ 0) :
    ∃ b off, a = some ⟨b, off, none⟩ ∧ b < w.heap.size ∧ ∀ i, i < n → w.cell? ⟨b, off + i * 3, none⟩ = some (.int .i64 (T.getD i t0).kind) ∧ w.cell? ⟨b, off + i * 3 + 1, none⟩ = some (.string (sB (T.getD i t0).text)) ∧ w.cell? ⟨b, off + i * 3 + 2, none⟩ = some (.int .i64 ((T.getD i t0).pos : Int)) := by
  rcases h.cell with h0 | ⟨b, off, ha, hc⟩
  · exact absurd h0 hn
  · exact ⟨b, off, ha, World.block_lt_of_cell? w _ (hc 0 (by omega)).1, hc⟩
theorem Toks.of_cells {w w' : World} {a : Option Addr} {n cap : Nat} {T : List Tok} (h : Toks w a n cap T)
    (hc : ∀ b off, a = some ⟨b, off, none⟩ → n ≠ 0 → ∀ i, w'.cell? ⟨b, i, none⟩ = w.cell? ⟨b, i, none⟩) : Toks w' a n cap T := by
  refine ⟨h.len, h.le, h.max, h.nil, ?_⟩
  by_cases hn : n = 0
  · exact .inl hn
  · obtain ⟨b, off, ha, _, hcell⟩ := h.at hn
    refine .inr ⟨b, off, ha, fun i hi => ?_⟩
    obtain ⟨c1, c2, c3⟩ := hcell i hi
    exact ⟨(hc b off ha hn _).trans c1, (hc b off ha hn _).trans c2, (hc b off ha hn _).trans c3⟩
theorem Toks.later {w w' : World} {a : Option Addr} {n cap : Nat} {T : List Tok} (h : Toks w a n cap T) (hb : Below w.heap.size w w') : Toks w' a n cap T := by
  refine h.of_cells fun b off ha hn i => ?_
  obtain ⟨b', off', ha', hlt, _⟩ := h.at hn
  rw [ha] at ha'
  cases ha'
  exact hb.cell (p := ⟨b, i, none⟩) hlt

set_option maxHeartbeats 2000000 in
theorem same_self (a1 a2 : Option Addr) (n c1 c2 : Nat) (T : List Tok) (w : World) (h1 : Toks w a1 n c1 T) (h2 : Toks w a2 n c2 T) :
    Calls Try.prog 11 #[.slice a1 n c1, .slice a2 n c2] w fun e w' => e = .returned (.bool true) ∧ ∃ q, w' = w.drewN q := by
  have hm1 : n ≤ 9223372036854775807 := by have := h1.le; have := h1.max; unfold maxLen at this; omega
  have H1 := hide h1
  have H2 := hide h2
  clear h1 h2
  go_enter Try.func11, Try.ntmps11
  go_wp2_with fail
  go_loopw [5] (fun i wr => ∃ k q : Nat, k ≤ n ∧ i = .int .i64 k ∧ wr = w.drewN q) (fun i _ => n - (intOf i).toNat)
  case atStart => exact ⟨0, 0, Nat.zero_le _, rfl, rfl⟩
  case round =>
    obtain ⟨k, q, hk, rfl, rfl⟩ := hrel
    by_cases hlt : k < n
    · obtain ⟨b1, o1, rfl, -, hc1⟩ := H1.out.at (by omega)
      obtain ⟨b2, o2, rfl, -, hc2⟩ := H2.out.at (by omega)
      obtain ⟨g1, g2, g3⟩ := hc1 k hlt
      obtain ⟨f1, f2, f3⟩ := hc2 k hlt
      clear hc1 hc2
      generalize (T.getD k t0).kind = K at *
      generalize sB (T.getD k t0).text = X at *
      generalize (((T.getD k t0).pos : Nat) : Int) = P at *
      go_wp2_with fail
      go_quiet (fail)
      go_wp2_with fail
      go_roundw
      case rel => exact ⟨k + 1, _, by omega, by go_num, rfl⟩
      case measure => simp [intOf]; omega
    · go_wp2_with fail
      go_ret
      exact ⟨rfl, _, rfl⟩

end Go.Proofs.Ytnkdbkmghfmpgaa
