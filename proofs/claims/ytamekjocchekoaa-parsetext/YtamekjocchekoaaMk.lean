/-
  ref07.making in memory; add: one more node. level: the marks of a level and their operators.
-/
import Derived.Test.YtamekjocchekoaaOuter
import Derived.Test.YtamekjocchekoaaQsm
namespace Go.Proofs.Ytamekjocchekoaa
open Go.RowKit Go.IntWalk Lx Pz
set_option linter.unusedVariables false

structure Mk (w W : World) (b : Nat) (nv bv dv : Value) (root : Int) (NM : List Txt) (BS : List Int) (NS : List Nd) : Prop where
  blk : HasC W b 58 #[nv, bv, dv, .int .i64 root]
  base : w.heap.size ≤ b
  names : W.ownsRow w.heap.size 9 1 nv NM.length (tx64 NM)
  binds : W.ownsRow w.heap.size 3 1 bv BS.length (in64 BS)
  nodes : W.ownsRow w.heap.size 37 9 dv NS.length (nd64 NS)
  old : Below w.heap.size w W
theorem Mk.later {w W W' : World} {b : Nat} {nv bv dv : Value} {root : Int} {NM : List Txt} {BS : List Int} {NS : List Nd} (h : Mk w W b nv bv dv root NM BS NS) (hb : Below W.heap.size W W') : Mk w W' b nv bv dv root NM BS NS :=
  ⟨h.blk.below hb, h.base, owns_kp h.names (Kp.of_below [] hb) (by simp), owns_kp h.binds (Kp.of_below [] hb) (by simp), owns_kp h.nodes (Kp.of_below [] hb) (by simp), bel h.old hb⟩
/-- What changes with a node. -/
abbrev SM : List TypeId := [37, 58]

theorem step_ndm {w W : World} {b : Nat} {nv bv dv : Value} {root : Int} {NM : List Txt} {BS : List Int} {NS : List Nd} {ops : Array Oper} {o : Oper} {a : Act} {K : Act → World → Prop} {Q : Exit → Act → World → Prop} {E : Prop}
    (hgd : o.guard = none) (s x : Operand) (ho : o.op = .call { callee := .builtin .append, args := #[s, x], argTypes := #[24, 24] })
    (hs : a.eval s = dv) (hR : Mk w W b nv bv dv root NM BS NS) (q : Nat) (n : Nd) (hx : a.eval x = .slice (some ⟨q, 0, none⟩) 1 1) (hc : HasC W q 37 (ndA n)) (h3 : NS.length ≤ 2000000)
    (h : ∀ g cap w', w'.ownsRow w.heap.size 37 9 (.slice (some ⟨g, 0, none⟩) (NS.length + 1) cap) (NS ++ [n]).length (nd64 (NS ++ [n])) → HasC w' b 58 #[nv, bv, dv, .int .i64 root] → Kp [37] W w' → Below w.heap.size w w' → W.grownBy w' dv.ownBlock → K (a.put o.dst (.slice (some ⟨g, 0, none⟩) (NS.length + 1) cap)) w') :
    if Region.wanted o (yielded ops a.tmps) = true then Oper.wp Try.prog o a W K Q else E := by
  obtain ⟨i0, hi0, hz0, hz1, hz2⟩ := info_parts infoN
  refine step_append_lies W hgd s x 24 ho w.heap.size 37 i0 _ 9 72 Try.underlying24 hi0 hz0 hz1 hz2 rfl (by omega) dv NS.length (nd64 NS) hs hR.nodes ⟨q, 0, none⟩ 1 1 (nd9 n) hx rfl (news_nd hc) (by simp [nd9, Value.oneCell']) (by omega) (by unfold maxLen; omega) (by omega) hR.old.size W.heap.size rfl ?_
  intro g cap w' hown hgrow hat hlt
  have hk : Kp [37] W w' := Kp.grown hgrow fun k hk => by
    obtain ⟨_, cs, fr, hb⟩ := owns_block hR.nodes k hk
    exact ⟨cs, _, fr, hb, by simp⟩
  exact h g cap w' (by rw [nd64_snoc, List.length_append]; exact hown) (hR.blk.kp hk (by decide)) hk (hR.old.grown hgrow hR.old.size fun k hk => (owns_block hR.nodes k hk).1) hgrow

theorem mk_end {w V Z w1 : World} {b : Nat} {nv bv dv : Value} {root : Int} {NM : List Txt} {BS : List Int} {NS NS' : List Nd} {v : Value} (hR : Mk w V b nv bv dv root NM BS NS) (hVZ : Below V.heap.size V Z)
    (hown : w1.ownsRow w.heap.size 37 9 v NS'.length (nd64 NS')) (hb1 : HasC w1 b 58 #[nv, bv, dv, .int .i64 root]) (hk1 : Kp [37] Z w1) (hold : Below w.heap.size w w1) :
    Mk w (w1.setCell ⟨b, 2, none⟩ v) b nv bv v root NM BS NS' ∧ Kp SM V (w1.setCell ⟨b, 2, none⟩ v) := by
  have ks : Kp [58] w1 (w1.setCell ⟨b, 2, none⟩ v) := Kp.set hb1 (by simp) 2 v
  have hk : Kp SM V (w1.setCell ⟨b, 2, none⟩ v) := ((Kp.of_below SM hVZ).trans (hk1.mono (by decide))).trans (ks.mono (by decide))
  exact ⟨⟨hb1.set 2 v, hR.base, owns_kp hR.names hk (by decide), owns_kp hR.binds hk (by decide), owns_kp hown ks (by decide), hold.setCell hR.base v⟩, hk⟩

set_option maxRecDepth 100000 in
set_option maxHeartbeats 2000000 in
theorem madd_any {w W : World} {b : Nat} {nv bv dv : Value} {root : Int} {NM : List Txt} {BS : List Int} {NS : List Nd} (h : Mk w W b nv bv dv root NM BS NS) (n : Nd) (h3 : NS.length ≤ 2000000) :
    Calls Try.prog 51 #[ptr b, .agg (ndA n)] W fun e W' => e = .returned (.int .i64 NS.length) ∧ (∃ dv', Mk w W' b nv bv dv' root NM BS (NS ++ [n])) ∧ Kp SM W W' := by
  have HR := hide (h.later (bel1 W (.cells (ndA n) 37)))
  have HN := hide (HasC.new W 37 (ndA n))
  have HO := hide (show ∀ k, dv.ownBlock = some k → k < W.heap.size from fun k hk => (h.nodes.lt k hk).2)
  have HK := hide (Kp.of_below SM (bel1 W (.cells (ndA n) 37)))
  clear h
  go_enter Try.func51, Try.ntmps51
  go_wp2_with fail
  generalize hV : W.alloc (.cells (ndA n) 37) = V at *
  generalize hq : W.heap.size = q at *
  have d3 : V.cell? ⟨b, 2, none⟩ = some dv := HR.out.blk.cell 2 rfl
  have hbV : b < V.heap.size := HR.out.blk.lt
  have d3a : ∀ o : Obj, (V.alloc o).cell? ⟨b, 2, none⟩ = some dv := fun o => (cell_old hbV).trans d3
  obtain ⟨e0, e1, e2, e3, e4, e5, e6, e7, e8⟩ := HN.out.nine
  clear hV hq
  go_region_law
    (first
      | (refine step_ndm (by rfl) _ _ (by rfl) (by rfl) (by first | exact (HR.out.later (bel1 _ _)).later (below_drew _) | exact (HR.out.later (below_drew V)).later (bel1 _ _)) V.heap.size n (by rfl) (by first | exact HasC.new _ _ _ | exact (HasC.new V 37 (ndA n)).below (below_drew _)) h3 ?_; intro g cap w1 hown hb1 hk1 hold hgrow; have t3 := hb1.cell 2 rfl; have y3 := hb1.frozen 2))
  all_goals
    have HE := hide (mk_end HR.out (by first | exact bel (bel1 V _) (below_drew _) | exact bel (below_drew V) (bel1 _ _)) hown hb1 hk1 hold)
    have c3 := (hb1.set 2 (.slice (some ⟨g, 0, none⟩) (NS.length + 1) cap)).cell 2 rfl
    clear hown hb1 hk1 hold hgrow t3 y3 e0 e1 e2 e3 e4 e5 e6 e7 e8 d3 d3a HN HO
    generalize w1.setCell ⟨b, 2, none⟩ (.slice (some ⟨g, 0, none⟩) (NS.length + 1) cap) = F at *
    go_wp2_with fail
    go_ret
    exact ⟨ret_int (by omega), ⟨_, HE.out.1⟩, HK.out.trans HE.out.2⟩

def mks : Nat → List Txt
  | 0 => [[124]]
  | 1 => [[94]]
  | 2 => [[38]]
  | 3 => [[60], [60, 61], [62], [62, 61], [61, 61], [33, 61]]
  | 4 => [[60, 60], [62, 62]]
  | 5 => [[43], [45]]
  | _ => [[42], [47], [37]]
def opz : Nat → List Int
  | 0 => [16]
  | 1 => [17]
  | 2 => [15]
  | 3 => [18, 19, 20, 21, 22, 23]
  | 4 => [13, 14]
  | 5 => [8, 9]
  | _ => [10, 11, 12]
theorem lev_ab : ∀ n, n < 7 → ∀ s ∈ marks.map (·.1), (ixZ (mks n) s = -1 ∧ (match mkT s with | .op k _ => k != n | _ => true) = true) ∨ ∃ i, i < (opz n).length ∧ ixZ (mks n) s = (i : Int) ∧ mkT s = .op n ((opz n).getD i 0) := by decide

theorem Iz.of_has {W : World} {b : Nat} {cs : Array Value} {L : List Int} (h : HasC W b 3 cs) (hc : cs.toList = in64 L) (hl : L.length ≤ 100) : Iz W (some ⟨b, 0, none⟩) L.length L.length L := by
  refine ⟨rfl, Nat.le_refl _, by unfold maxLen; omega, .inr ⟨b, 0, rfl, h.lt, fun i hi => ?_⟩⟩
  rw [Nat.zero_add]
  refine h.cell i ?_
  rw [← Array.getElem?_toList, hc]
  simp [in64, List.getD, hi]

/-- What level answers. -/
def LevP (W : World) (n : Nat) (e : Ending) (W' : World) : Prop :=
  ∃ ma g B, e = .returned (.tuple #[.slice ma (opz n).length (opz n).length, .slice (some ⟨g, 0, none⟩) (opz n).length (opz n).length]) ∧ Tx W' ma (opz n).length (opz n).length (mks n) ∧ HasC W' g 3 B ∧ B.toList = in64 (opz n) ∧ Below W.heap.size W W'
theorem lev_made (W : World) (n : Nat) (A B : Array Value) (hA : A.toList = tx64 (mks n)) (hB : B.toList = in64 (opz n)) (h1 : (mks n).length = (opz n).length) (h2 : (opz n).length ≤ 100) :
    LevP W n (.returned (.tuple #[.slice (some ⟨W.heap.size, 0, none⟩) (opz n).length (opz n).length, .slice (some ⟨W.heap.size + 1, 0, none⟩) (opz n).length (opz n).length])) ((W.alloc (.cells A 9)).alloc (.cells B 3)) := by
  refine ⟨_, _, B, rfl, ?_, ?_, hB, bel (bel1 W _) (bel1 _ _)⟩
  · have := Tx.of_has (L := mks n) (((HasC.new W 9 A)).alloc (.cells B 3)) hA (by omega)
    rw [h1] at this
    exact this
  · have := HasC.new (W.alloc (.cells A 9)) 3 B
    rw [World.size_alloc] at this
    exact this

set_option maxRecDepth 100000 in
set_option maxHeartbeats 4000000 in
theorem level_any (n : Nat) (hn : n < 7) (W : World) : Calls Try.prog 69 #[.int .i64 n] W fun e W' => LevP W n e W' := by
  match n, hn with
  | 0, _ =>
    go_enter Try.func69, Try.ntmps69
    go_wp2_with fail
    go_ret2
    exact lev_made W 0 #[.string ⟨#[124]⟩] #[.int .i64 16] rfl rfl rfl (by decide)
  | 1, _ =>
    go_enter Try.func69, Try.ntmps69
    go_wp2_with fail
    go_ret2
    exact lev_made W 1 #[.string ⟨#[94]⟩] #[.int .i64 17] rfl rfl rfl (by decide)
  | 2, _ =>
    go_enter Try.func69, Try.ntmps69
    go_wp2_with fail
    go_ret2
    exact lev_made W 2 #[.string ⟨#[38]⟩] #[.int .i64 15] rfl rfl rfl (by decide)
  | 3, _ =>
    go_enter Try.func69, Try.ntmps69
    go_wp2_with fail
    go_ret2
    exact lev_made W 3 #[.string ⟨#[60]⟩, .string ⟨#[60, 61]⟩, .string ⟨#[62]⟩, .string ⟨#[62, 61]⟩, .string ⟨#[61, 61]⟩, .string ⟨#[33, 61]⟩] #[.int .i64 18, .int .i64 19, .int .i64 20, .int .i64 21, .int .i64 22, .int .i64 23] rfl rfl rfl (by decide)
  | 4, _ =>
    go_enter Try.func69, Try.ntmps69
    go_wp2_with fail
    go_ret2
    exact lev_made W 4 #[.string ⟨#[60, 60]⟩, .string ⟨#[62, 62]⟩] #[.int .i64 13, .int .i64 14] rfl rfl rfl (by decide)
  | 5, _ =>
    go_enter Try.func69, Try.ntmps69
    go_wp2_with fail
    go_ret2
    exact lev_made W 5 #[.string ⟨#[43]⟩, .string ⟨#[45]⟩] #[.int .i64 8, .int .i64 9] rfl rfl rfl (by decide)
  | 6, _ =>
    go_enter Try.func69, Try.ntmps69
    go_wp2_with fail
    go_ret2
    exact lev_made W 6 #[.string ⟨#[42]⟩, .string ⟨#[47]⟩, .string ⟨#[37]⟩] #[.int .i64 10, .int .i64 11, .int .i64 12] rfl rfl rfl (by decide)

end Go.Proofs.Ytamekjocchekoaa
