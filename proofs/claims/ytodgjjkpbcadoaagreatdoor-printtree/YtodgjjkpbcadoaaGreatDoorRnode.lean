/-
  The reader of package parse: node.
-/
import Derived.Test.YtodgjjkpbcadoaaGreatDoorRdRn
import Derived.Deep.RegionLaw
namespace Go.Proofs.YtodgjjkpbcadoaaGreatDoor
open Go.RowKit Go.IntWalk Lx Pz
set_option linter.unusedVariables false

theorem infoN : (Tryz.prog.info? 39).map (fun i => (i.zero, i.size, i.bytes)) = some (some (.agg #[.int .i64 0, .int .i64 0, .int .i64 0, .int .i64 0, .int .i64 0, .int .i64 0, .int .i64 0, .int .i64 0, .int .i64 0]), 9, 72) := by kernel_rfl

abbrev ndA (n : Nd) : Array Value := #[.int .i64 n.op, .int .i64 n.a, .int .i64 n.b, .int .i64 n.c, .int .i64 n.k, .int .i64 n.back, .int .i64 n.co, .int .i64 n.x, .int .i64 n.y]
theorem news_nd {W : World} {b : Nat} {n : Nd} (h : HasC W b 39 (ndA n)) : ∀ j u, (nd9 n)[j]? = some u → W.cell? ((⟨b, 0, none⟩ : Addr).add j) = some u := by
  intro j u hu
  rw [Addr.add_lit]
  rw [Nat.zero_add]
  exact h.cell j (by rw [← hu]; simp [ndA, nd9])

/-- An append of one node, at a step of a region that draws. -/
theorem step_nd {w W : World} {b : Nat} {m : Mm} {T : List Tok} {NM : List Txt} {BS : List Int} {NS : List Nd} {ops : Array Oper} {o : Oper} {a : Act} {K : Act → World → Prop} {Q : Exit → Act → World → Prop} {E : Prop}
    (hgd : o.guard = none) (s x : Operand) (ho : o.op = .call { callee := .builtin .append, args := #[s, x], argTypes := #[24, 24] })
    (hs : a.eval s = m.dv) (hR : Rd w W b m T NM BS NS) (q : Nat) (n : Nd) (hx : a.eval x = .slice (some ⟨q, 0, none⟩) 1 1) (hc : HasC W q 39 (ndA n)) (h3 : NS.length ≤ 2000000)
    (h : ∀ g cap w', w'.ownsRow w.heap.size 39 9 (.slice (some ⟨g, 0, none⟩) (NS.length + 1) cap) (NS ++ [n]).length (nd64 (NS ++ [n])) → HasC w' b 73 m.cs → Kp [39] W w' → Below w.heap.size w w' → W.grownBy w' m.dv.ownBlock → K (a.put o.dst (.slice (some ⟨g, 0, none⟩) (NS.length + 1) cap)) w') :
    if Region.wanted o (yielded ops a.tmps) = true then Oper.wp Tryz.prog o a W K Q else E := by
  obtain ⟨i0, hi0, hz0, hz1, hz2⟩ := info_parts infoN
  refine step_append_lies W hgd s x 24 ho w.heap.size 39 i0 _ 9 72 Tryz.underlying24 hi0 hz0 hz1 hz2 rfl (by omega) m.dv NS.length (nd64 NS) hs hR.nodes ⟨q, 0, none⟩ 1 1 (nd9 n) hx rfl (news_nd hc) (by simp [nd9, Value.oneCell']) (by omega) (by unfold maxLen; omega) (by omega) hR.old.size W.heap.size rfl ?_
  intro g cap w' hown hgrow hat hlt
  have hk : Kp [39] W w' := Kp.grown hgrow fun k hk => by
    obtain ⟨_, cs, fr, hb⟩ := owns_block hR.nodes k hk
    exact ⟨cs, _, fr, hb, by simp⟩
  exact h g cap w' (by rw [nd64_snoc, List.length_append]; exact hown) (hR.blk.kp hk (by decide)) hk (hR.old.grown hgrow hR.old.size fun k hk => (owns_block hR.nodes k hk).1) hgrow

/-- A node's cells, at any number of a block. -/
abbrev nine (W : World) (q : Nat) (n : Nd) : Prop := W.cell? ⟨q, 0, none⟩ = some (.int .i64 n.op) ∧ W.cell? ⟨q, 1, none⟩ = some (.int .i64 n.a) ∧ W.cell? ⟨q, 2, none⟩ = some (.int .i64 n.b) ∧ W.cell? ⟨q, 3, none⟩ = some (.int .i64 n.c) ∧ W.cell? ⟨q, 4, none⟩ = some (.int .i64 n.k) ∧ W.cell? ⟨q, 5, none⟩ = some (.int .i64 n.back) ∧ W.cell? ⟨q, 6, none⟩ = some (.int .i64 n.co) ∧ W.cell? ⟨q, 7, none⟩ = some (.int .i64 n.x) ∧ W.cell? ⟨q, 8, none⟩ = some (.int .i64 n.y)
theorem HasC.nine {W : World} {q : Nat} {n : Nd} (h : HasC W q 39 (ndA n)) : nine W q n :=
  ⟨h.cell 0 rfl, h.cell 1 rfl, h.cell 2 rfl, h.cell 3 rfl, h.cell 4 rfl, h.cell 5 rfl, h.cell 6 rfl, h.cell 7 rfl, h.cell 8 rfl⟩

theorem node_end {w V Z w1 : World} {b : Nat} {m : Mm} {T : List Tok} {NM : List Txt} {BS : List Int} {NS NS' : List Nd} {v : Value} (hR : Rd w V b m T NM BS NS) (hVZ : Below V.heap.size V Z)
    (hown : w1.ownsRow w.heap.size 39 9 v NS'.length (nd64 NS')) (hb1 : HasC w1 b 73 m.cs) (hk1 : Kp [39] Z w1) (hold : Below w.heap.size w w1) :
    (∃ m', Rd w (w1.setCell ⟨b, 3, none⟩ v) b m' T NM BS NS') ∧ Kp SX V (w1.setCell ⟨b, 3, none⟩ v) := by
  have ks : Kp [73] w1 (w1.setCell ⟨b, 3, none⟩ v) := Kp.set hb1 (by simp) 3 v
  have hk : Kp SX V (w1.setCell ⟨b, 3, none⟩ v) := ((Kp.of_below SX hVZ).trans (hk1.mono (by decide))).trans (ks.mono (by decide))
  exact ⟨⟨⟨m.la, m.ln, m.lc, m.nv, m.bv, v, m.root⟩, hb1.set 3 v, hR.base, hR.toks.kp hk (by decide), owns_kp hR.names hk (by decide), owns_kp hR.binds hk (by decide), owns_kp hown ks (by decide), hR.wf, hold.setCell hR.base v⟩, hk⟩

set_option maxRecDepth 100000 in
set_option maxHeartbeats 1000000 in
theorem node_any {w W : World} {b : Nat} {m : Mm} {T : List Tok} {NM : List Txt} {BS : List Int} {NS : List Nd} (h : Rd w W b m T NM BS NS) (n : Nd) (h3 : NS.length ≤ 2000000) :
    Calls Tryz.prog 76 #[ptr b, .agg (ndA n)] W fun e W' => e = .returned (.int .i64 NS.length) ∧ (∃ m', Rd w W' b m' T NM BS (NS ++ [n])) ∧ Kp SX W W' := by
  have HR := hide (h.later (bel1 W (.cells (ndA n) 39)))
  have HN := hide (HasC.new W 39 (ndA n))
  have HO := hide (show ∀ k, m.dv.ownBlock = some k → k < W.heap.size from fun k hk => (h.nodes.lt k hk).2)
  have HK := hide (Kp.of_below SX (bel1 W (.cells (ndA n) 39)))
  clear h
  obtain ⟨la, ln, lc, nv, bv, dv, root⟩ := m
  go_enter Tryz.func76, Tryz.ntmps76
  go_wp2_with fail
  generalize hV : W.alloc (.cells (ndA n) 39) = V at *
  generalize hq : W.heap.size = q at *
  have d3 : V.cell? ⟨b, 3, none⟩ = some dv := HR.out.blk.cell 3 rfl
  have hbV : b < V.heap.size := HR.out.blk.lt
  have d3a : ∀ o : Obj, (V.alloc o).cell? ⟨b, 3, none⟩ = some dv := fun o => (cell_old hbV).trans d3
  obtain ⟨e0, e1, e2, e3, e4, e5, e6, e7, e8⟩ := HN.out.nine
  clear hV hq
  go_region_law
    (first
      | (refine step_nd (m := ⟨la, ln, lc, nv, bv, dv, root⟩) (by rfl) _ _ (by rfl) (by rfl) (by first | exact (HR.out.later (bel1 _ _)).later (below_drew _) | exact (HR.out.later (below_drew V)).later (bel1 _ _)) V.heap.size n (by rfl) (by first | exact HasC.new _ _ _ | exact (HasC.new V 39 (ndA n)).below (below_drew _)) h3 ?_; intro g cap w1 hown hb1 hk1 hold hgrow; have t3 := hb1.cell 3 rfl; have y3 := hb1.frozen 3))
  all_goals
    have HE := hide (node_end HR.out (by first | exact bel (bel1 V _) (below_drew _) | exact bel (below_drew V) (bel1 _ _)) hown hb1 hk1 hold)
    have c3 := (hb1.set 3 (.slice (some ⟨g, 0, none⟩) (NS.length + 1) cap)).cell 3 rfl
    clear hown hb1 hk1 hold hgrow t3 y3 e0 e1 e2 e3 e4 e5 e6 e7 e8 d3 d3a HN HO
    generalize w1.setCell ⟨b, 3, none⟩ (.slice (some ⟨g, 0, none⟩) (NS.length + 1) cap) = F at *
    go_wp2_with fail
    go_ret
    exact ⟨ret_int (by omega), HE.out.1, HK.out.trans HE.out.2⟩

end Go.Proofs.YtodgjjkpbcadoaaGreatDoor
