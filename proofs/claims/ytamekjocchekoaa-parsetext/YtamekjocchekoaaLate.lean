/-
  Small lemmas that the document's parser needs, apart from the walks of Check and Sound (they stand there too: never import both).
-/
import Derived.Test.YtamekjocchekoaaQsm
import Derived.Lib.QuietBelow
import Derived.BigQuiet
namespace Go.Proofs.Ytamekjocchekoaa
open Go.RowKit Go.IntWalk Lx Pz
set_option linter.unusedVariables false

theorem own_forms {w : World} {base size n : Nat} {e : TypeId} {v : Value} {xs : List Value} (h : w.ownsRow base e size v n xs) : (v = .slice none 0 0 ∧ n = 0) ∨ ∃ g cap, v = .slice (some ⟨g, 0, none⟩) n cap := by
  rcases h.2 with h | ⟨g, cap, cur, hv, -⟩
  · exact .inl h
  · exact .inr ⟨g, cap, hv⟩
theorem list_in {W : World} {base : Nat} {A : List Int} {v : Value} {ops : Array Oper} {rest : List Oper} {o : Oper} {a : Act} {Q : Exit → Act → World → Prop}
    (hgd : o.guard = none) (s x : Operand) (ho : o.op = .call { callee := .builtin .append, args := #[s, x], argTypes := #[23, 23] })
    (hs : a.eval s = v) (hO : W.ownsRow base 3 1 v A.length (in64 A)) (hbase : base ≤ W.heap.size) (q : Nat) (n : Int) (hx : a.eval x = .slice (some ⟨q, 0, none⟩) 1 1) (hc : HasC W q 3 #[.int .i64 n]) (h3 : A.length ≤ 2000000)
    (h : ∀ g cap w', w'.ownsRow base 3 1 (.slice (some ⟨g, 0, none⟩) (A.length + 1) cap) (A ++ [n]).length (in64 (A ++ [n])) → Kp [3] W w' → (∀ w0, Below base w0 W → w0.heap.size = base → Below base w0 w') → wpList Try.prog ops Q rest (a.put o.dst (.slice (some ⟨g, 0, none⟩) (A.length + 1) cap)) w') :
    wpList Try.prog ops Q (o :: rest) a W := by
  obtain ⟨i0, hi0, hz0, hz1, hz2⟩ := info_parts infoInt
  refine wpList_append_lies W hgd s x 23 ho base 3 i0 _ 1 8 Try.underlying23 hi0 hz0 hz1 hz2 rfl (by omega) v A.length (in64 A) hs hO ⟨q, 0, none⟩ 1 1 [.int .i64 n] hx rfl (news_one hc) (by simp [Value.oneCell']) (by omega) (by unfold maxLen; omega) (by omega) hbase W.heap.size rfl ?_
  intro g cap w' hown hgrow hat hlt
  have hk : Kp [3] W w' := Kp.grown hgrow fun k hk => by
    obtain ⟨_, cs, fr, hb⟩ := owns_block hO k hk
    exact ⟨cs, _, fr, hb, by simp⟩
  exact h g cap w' (by rw [List.length_append]; simpa using hown) hk (fun w0 hb h0 => hb.grown hgrow hbase fun k hk => (owns_block hO k hk).1)
theorem own_mono {w : World} {base base' : Nat} {e : TypeId} {size : Nat} {v : Value} {n : Nat} {xs : List Value} (h : w.ownsRow base e size v n xs) (hb : base' ≤ base) : w.ownsRow base' e size v n xs := by
  obtain ⟨h1, h2⟩ := h
  refine ⟨h1, ?_⟩
  rcases h2 with h2 | ⟨g, cap, cur, hv, hg, rest⟩
  · exact .inl h2
  · exact .inr ⟨g, cap, cur, hv, Nat.le_trans hb hg, rest⟩
theorem bdL_len : ∀ (es : List E) (s : Nat), (bdL es s).length = es.length
  | [], s => rfl
  | a :: es, s => by simp [bdL, bdL_len es]
theorem mixed' : Try.prog.follows .mixedOrders = true := by kernel_rfl
theorem to_below {P : Program} {f : FuncId} {args : Array Value} {V : World} {v : Value} (h : Calls P f args V fun e w' => e = .returned v ∧ w' = V) : Calls P f args V fun e w' => e = .returned v ∧ Below V.heap.size V w' :=
  h.mono fun _ _ ⟨he, hw⟩ => ⟨he, hw ▸ Below.refl _ _⟩
set_option maxHeartbeats 2000000 in
theorem varity_any (op : Int) (W : World) : Calls Try.prog 58 #[.int .i64 op] W fun e W' => e = .returned (.int .i64 (arZ op)) ∧ W' = W := by
  have key : (op < 1 ∧ arZ op = -1) ∨ (op = 4 ∧ arZ op = -1) ∨ (33 < op ∧ arZ op = -1) ∨ (1 ≤ op ∧ op < 4 ∧ arZ op = 0) ∨ (5 ≤ op ∧ op < 8 ∧ arZ op = 1) ∨ (28 < op ∧ op ≤ 33 ∧ arZ op = 1) ∨ (8 ≤ op ∧ op < 26 ∧ arZ op = 2) ∨ (26 ≤ op ∧ op ≤ 28 ∧ arZ op = 3) := by
    unfold arZ
    repeat' split
    all_goals omega
  rcases key with ⟨h1, h2⟩ | ⟨h1, h2⟩ | ⟨h1, h2⟩ | ⟨h1, h3, h2⟩ | ⟨h1, h3, h2⟩ | ⟨h1, h3, h2⟩ | ⟨h1, h3, h2⟩ | ⟨h1, h3, h2⟩
  all_goals
    rw [h2]
    clear h2
    have h4 : (op == 4) = decide (op = 4) := by rfl
    go_enter Try.func58, Try.ntmps58
    go_wp2
    all_goals
      go_ret
      exact ⟨rfl, rfl⟩

end Go.Proofs.Ytamekjocchekoaa
