/-
  The document's Roomy: a code in memory of its own, with a mark behind its instructions.
-/
import Derived.Test.YtihbhbeaihdgnaaGreatRGY
import Derived.Laws.AppendOwnNone
namespace Go.Proofs.Cde
open Go.RowKit Go.IntWalk YtihbhbeaihdgnaaGreat.Knd
set_option linter.unusedVariables false

theorem or_t {a b : Bool} (h : b = true) : (a || b) = true := by rw [h]; simp
theorem infoN : (Tryz.prog.info? 41).map (fun i => (i.zero, i.size, i.bytes)) = some (some (.agg (ia i0)), 6, 48) := by kernel_rfl
def mk7 : In := ⟨7777, 0, 0, 0, 0, 0⟩
abbrev cz : Array Value := #[.int .i64 0, .int .i64 0, .slice none 0 0, .int .i64 0]

theorem has_own {w w' : World} {b base size n : Nat} {t e : TypeId} {cs : Array Value} {v : Value} {xs : List Value} (h : HasC w b t cs) (hO : w.ownsRow base e size v n xs) (hg : w.grownBy w' v.ownBlock) (ht : t ≠ e) : HasC w' b t cs := by
  refine h.kept hg fun he => ?_
  obtain ⟨_, cs', fr, hk⟩ := owns_block hO b he.symm
  rw [show w.heap[b]? = _ from h] at hk
  cases hk
  exact ht rfl
theorem owns_other {w : World} {b i base size n : Nat} {t e : TypeId} {cs : Array Value} {v : Value} {xs : List Value} (hO : w.ownsRow base e size v n xs) (h : HasC w b t cs) (ht : t ≠ e) (u : Value) : (w.setCell ⟨b, i, none⟩ u).ownsRow base e size v n xs := by
  refine ⟨hO.1, ?_⟩
  rcases hO.2 with hn | ⟨g, cap, cur, rfl, hb, hgg, rest⟩
  · exact .inl hn
  · refine .inr ⟨g, cap, cur, rfl, hb, ?_, rest⟩
    rw [Below.heap_setCell w ⟨b, i, none⟩ u g fun e' => ?_]
    · exact hgg
    · have e2 : g = b := e'
      subst e2
      rw [show w.heap[g]? = _ from h] at hgg
      cases hgg
      exact ht rfl
theorem own_caps {w : World} {base : Nat} {e : TypeId} {size g n cap : Nat} {xs : List Value} (h : w.ownsRow base e size (.slice (some ⟨g, 0, none⟩) n cap) n xs) : n ≤ cap ∧ cap ≤ maxLen := by
  rcases h.2 with ⟨h1, -⟩ | ⟨g', cap', cur, hv, -, -, h3, h4, -⟩
  · cases h1
  · cases hv
    exact ⟨h3, h4⟩
/-- An append of any list to a list of the call's own that is empty. -/
theorem append_row {P : Program} (w : World) {ops : Array Oper} {rest : List Oper} {o : Oper} {a : Act} {Q : Exit → Act → World → Prop}
    (hg : o.guard = none) (s x : Operand) (t : TypeId) (hop : o.op = Op.call { callee := Callee.builtin Builtin.append, args := #[s, x], argTypes := #[t, t] })
    (base : Nat) (e : TypeId) (i : TypeInfo) (z : Value) (size bytes : Nat) (h1 : P.underlying t = some (.slice e)) (h2 : P.info? e = some i) (h3 : i.zero = some z) (h4 : i.size = size) (h5 : i.bytes = bytes) (h6 : z.cells.size = size) (h7 : 0 < size)
    (v : Value) (hs : a.eval s = v) (hown : w.ownsRow base e size v 0 []) (ao : Option Addr) (m c : Nat) (news : List Value) (hx : a.eval x = .slice ao m c) (hn : news.length = m * size)
    (hnone : ao = none → m = 0 ∧ c = 0) (hc : ∀ ad, ao = some ad → ∀ j u, news[j]? = some u → w.cell? (ad.add j) = some u) (h1c : ∀ u ∈ news, u.oneCell' = true)
    (b1 : m ≤ maxLen) (b2 : m * bytes ≤ 140737488355328) (hbase : base ≤ w.heap.size)
    (hK : ∀ v' w', w'.ownsRow base e size v' m news → w.grownBy w' v.ownBlock → wpList P ops Q rest (a.put o.dst v') w') :
    wpList P ops Q (o :: rest) a w := by
  cases ao with
  | none =>
    obtain ⟨rfl, rfl⟩ := hnone rfl
    have hnews : news = [] := List.eq_nil_of_length_eq_zero (by simpa using hn)
    subst hnews
    exact wpList_append_own_none hg s x t hop base e i size h1 h2 _ 0 [] hs hown hx (hK _ w hown (World.grownBy.refl _ _))
  | some ad =>
    refine wpList_append_own w hg s x t hop base e i z size bytes h1 h2 h3 h4 h5 h6 h7 _ 0 [] hs hown ad m c news hx hn (hc ad rfl) h1c (by omega) (by rw [Nat.zero_add]; exact b2) hbase ?_
    intro v' w' ho hgr hiff
    exact hK v' w' (by simpa using ho) hgr
/-- One more element at the end of an own row. -/
theorem append_one {P : Program} (w : World) {ops : Array Oper} {rest : List Oper} {o : Oper} {a : Act} {Q : Exit → Act → World → Prop}
    (hg : o.guard = none) (s x : Operand) (t : TypeId) (hop : o.op = Op.call { callee := Callee.builtin Builtin.append, args := #[s, x], argTypes := #[t, t] })
    (base : Nat) (e : TypeId) (i : TypeInfo) (z : Value) (size bytes : Nat) (h1 : P.underlying t = some (.slice e)) (h2 : P.info? e = some i) (h3 : i.zero = some z) (h4 : i.size = size) (h5 : i.bytes = bytes) (h6 : z.cells.size = size) (h7 : 0 < size)
    (v : Value) (n : Nat) (xs : List Value) (hs : a.eval s = v) (hown : w.ownsRow base e size v n xs) (q : Nat) (new : Array Value) (hx : a.eval x = .slice (some ⟨q, 0, none⟩) 1 1) (hn : new.size = size) (hc : HasC w q e new)
    (h1c : ∀ u ∈ new.toList, u.oneCell' = true) (b1 : n + 1 ≤ maxLen) (b2 : (n + 1) * bytes ≤ 140737488355328) (hbase : base ≤ w.heap.size)
    (hK : ∀ g cap w', w'.ownsRow base e size (.slice (some ⟨g, 0, none⟩) (n + 1) cap) (n + 1) (xs ++ new.toList) → w.grownBy w' v.ownBlock → wpList P ops Q rest (a.put o.dst (.slice (some ⟨g, 0, none⟩) (n + 1) cap)) w') :
    wpList P ops Q (o :: rest) a w := by
  refine wpList_append_lies w hg s x t hop base e i z size bytes h1 h2 h3 h4 h5 h6 h7 v n xs hs hown ⟨q, 0, none⟩ 1 1 new.toList hx (by simp [hn]) ?_ h1c (by omega) b1 b2 hbase w.heap.size rfl ?_
  · intro j u hu
    rw [Addr.add_lit, Nat.zero_add]
    exact hc.cell j (by simpa using hu)
  · intro g cap w' ho hgr _ _
    exact hK g cap w' ho hgr

/-- The drawn region of Roomy, by which of its operations are done. -/
structure Rg (W : World) (f d : Int) (a : Option Addr) (n cap : Nat) (o : Int) (L : List In) (q : Nat → Bool) (y0 y1 y2 y3 y4 y5 y6 y7 y8 y9 y10 y11 : Value) (w : World) : Prop where
  bel : Below W.heap.size W w
  b0 : HasC w W.heap.size 26 (cd f d a n cap o)
  b1 : HasC w (W.heap.size + 1) 26 cz
  ba : q 12 = false → HasC w (W.heap.size + 2) 26 (cd f d a n cap o)
  bb : q 12 = true → HasC w (W.heap.size + 2) 26 #[.int .i64 f, .int .i64 d, y10, .int .i64 o]
  f0 : q 0 = true → q 3 = false → ∃ g, y0 = .slice (some ⟨g, 0, none⟩) 0 0 ∧ HasC w g 41 #[] ∧ W.heap.size ≤ g
  f1 : q 1 = true → y1 = .pointer (some ⟨W.heap.size, 2, none⟩)
  f2 : q 2 = true → y2 = .slice a n cap
  f3 : q 3 = true → q 6 = false → w.ownsRow W.heap.size 41 6 y3 n (is6 L)
  f4 : q 4 = true → y4 = .agg (ia mk7)
  f5 : q 5 = true → q 6 = false → ∃ g, y5 = .slice (some ⟨g, 0, none⟩) 1 1 ∧ HasC w g 41 (ia mk7)
  f6 : q 6 = true → q 3 = true ∧ ∃ g c, y6 = .slice (some ⟨g, 0, none⟩) (n + 1) c ∧ w.ownsRow W.heap.size 41 6 (.slice (some ⟨g, 0, none⟩) (n + 1) c) (n + 1) (is6 L ++ i6 mk7)
  f7 : q 7 = true → y7 = .pointer (some ⟨W.heap.size, 2, none⟩)
  f8 : q 8 = true → y8 = .slice a n cap
  f9 : q 9 = true → y9 = .int .i64 (n : Int)
  f10 : q 10 = true → q 6 = true ∧ ∃ g c, y6 = .slice (some ⟨g, 0, none⟩) (n + 1) c ∧ y10 = .slice (some ⟨g, 0, none⟩) n c
  f11 : q 11 = true → y11 = .pointer (some ⟨W.heap.size + 2, 2, none⟩)
  ph : q 12 = true → q 10 = true ∧ q 6 = true ∧ q 3 = true
theorem own_empty {w : World} {g base : Nat} (h : HasC w g 41 #[]) (hb : base ≤ g) : w.ownsRow base 41 6 (.slice (some ⟨g, 0, none⟩) 0 0) 0 [] := ⟨rfl, .inr ⟨g, 0, #[], rfl, hb, h, Nat.le_refl _, Nat.zero_le _, rfl, rfl⟩⟩
theorem has_ne {w : World} {b c : Nat} {t : TypeId} {cs ds : Array Value} (h : HasC w b t cs) (k : HasC w c t ds) (hne : cs.size ≠ ds.size) : some b ≠ some c := by
  rintro he
  cases he
  have k2 : w.heap[b]? = some (.cells ds t (0, 0)) := k
  rw [show w.heap[b]? = _ from h] at k2
  cases k2
  exact hne rfl

/-- What Roomy answers. -/
def RoP (W : World) (f d o : Int) (n : Nat) (L : List In) (e : Ending) (W' : World) : Prop :=
  ∃ g c, e = .returned (.agg (cd f d (some ⟨g, 0, none⟩) n c o)) ∧ W'.ownsRow W.heap.size 41 6 (.slice (some ⟨g, 0, none⟩) (n + 1) c) (n + 1) (is6 (L ++ [mk7])) ∧ Below W.heap.size W W'
theorem res_roomy {F : World} {A : Nat} {a b c d : Value} {tmps : Array Value} (hA : HasC F A 26 #[a, b, c, d]) (h2 : tmps[2]? = some (.pointer (some ⟨A, 0, none⟩))) :
    (results Tryz.f5 tmps).run Tryz.prog F = .ok (.agg #[a, b, c, d]) F := by
  obtain ⟨c0, c1, c2, c3⟩ := four_of hA
  simp [results, Tryz.results5, go_sem, h2, c0, c1, c2, c3]

set_option maxRecDepth 100000 in
set_option maxHeartbeats 16000000 in
theorem roomyC_any (f d o : Int) {a : Option Addr} {n cap : Nat} {L : List In} {W : World} (hL : Ins W a n cap L) (hs : (n + 1) * 48 ≤ 140737488355328) :
    Calls Tryz.prog 5 #[.agg (cd f d a n cap o)] W (RoP W f d o n L) := by
  have hb1 := bel (bel1 W (.cells (cd f d a n cap o) 26)) (bel1 (W.alloc (.cells (cd f d a n cap o) 26)) (.cells cz 26))
  have hb2 := bel hb1 (bel1 ((W.alloc (.cells (cd f d a n cap o) 26)).alloc (.cells cz 26)) (.cells (cd f d a n cap o) 26))
  have H0 := hide (((HasC.new W 26 (cd f d a n cap o)).alloc (.cells cz 26)).alloc (.cells (cd f d a n cap o) 26))
  have H1 := hide ((has_new1 W (.cells (cd f d a n cap o) 26) 26 cz).alloc (.cells (cd f d a n cap o) 26))
  have H2 := has_new1 (W.alloc (.cells (cd f d a n cap o) 26)) (.cells cz 26) 26 (cd f d a n cap o)
  rw [World.size_alloc] at H2
  have H2 := hide H2
  have HB := hide hb2
  have HL := hide hL
  have hnone : a = none → n = 0 ∧ cap = 0 := fun h => by have h1 := hL.nil h; have h2 := hL.le; omega
  have HNO := hide hnone
  have hn := hL.short
  clear hb1 hb2 hL hnone
  obtain ⟨iN, hiN, hzN0, hzN1, hzN2⟩ := info_parts infoN
  have HIN := hide (And.intro hiN (And.intro hzN0 (And.intro hzN1 hzN2)))
  clear hiN hzN0 hzN1 hzN2
  have HLl := hide HL.out.len
  go_enter Tryz.func5, Tryz.ntmps5
  go_wp2_with fail
  obtain ⟨V0, hV0⟩ : ∃ V, ((W.alloc (.cells (cd f d a n cap o) 26)).alloc (.cells cz 26)).alloc (.cells (cd f d a n cap o) 26) = V := ⟨_, rfl⟩
  rw [hV0] at H0 H1 H2 HB ⊢
  clear hV0
  refine wp_region_flags mixed0 (ord_of (by kernel_rfl)) (fun q a' w => ∃ z4 y0 y1 y2 y3 y4 y5 y6 y7 y8 y9 y10 y11 z17, a' = ⟨#[.agg (cd f d a n cap o), .pointer (some ⟨W.heap.size, 0, none⟩), .pointer (some ⟨W.heap.size + 1, 0, none⟩), .pointer (some ⟨W.heap.size + 2, 0, none⟩), z4, y0, y1, y2, y3, y4, y5, y6, y7, y8, y9, y10, y11, z17], []⟩ ∧ Rg W f d a n cap o L q y0 y1 y2 y3 y4 y5 y6 y7 y8 y9 y10 y11 w) ?_ ?_ ?_
  · refine ⟨_, _, _, _, _, _, _, _, _, _, _, _, _, _, rfl, ⟨HB.out.os, HB.out.tape, HB.out.output, HB.out.size, HB.out.block⟩, H0.out, H1.out, fun _ => H2.out, ?_, ?_, ?_, ?_, ?_, ?_, ?_, ?_, ?_, ?_, ?_, ?_, ?_, ?_⟩
    all_goals first | (intro h; cases h; done) | (intro _ h; cases h; done)
  · rintro q a' w i op ⟨z4, y0, y1, y2, y3, y4, y5, y6, y7, y8, y9, y10, y11, z17, rfl, C⟩ hdi ho haft Q' hk'
    have HK := hide hk'
    clear hk' H0 H1 H2 HB
    have hi : i < 13 := (Array.getElem?_eq_some_iff.1 ho).1
    match i, hi with
    | 0, _ =>
      obtain rfl := (Option.some.inj ho)
      clear haft ho
      have C := hide C
      go_wp2
      have C := C.out
      have hb : Below W.heap.size W (w.alloc (.cells #[] 41)) := C.bel.alloc C.bel.size _
      exact HK.out _ _ ⟨z4, _, y1, y2, y3, y4, y5, y6, y7, y8, y9, y10, y11, z17, rfl, ⟨hb, (C.b0.alloc _), (C.b1.alloc _), (fun h => (C.ba h).alloc _), (fun h => (C.bb h).alloc _), (fun _ _ => ⟨_, rfl, HasC.new w 41 #[], C.bel.size⟩), C.f1, C.f2, (fun h h2 => (C.f3 h h2).alloc _), C.f4, (fun h h2 => by obtain ⟨g, h3, h4⟩ := C.f5 h h2; exact ⟨g, h3, h4.alloc _⟩), (fun h => ⟨or_t (C.f6 h).1, by obtain ⟨g, c, h3, h4⟩ := (C.f6 h).2; exact ⟨g, c, h3, h4.alloc _⟩⟩), C.f7, C.f8, C.f9, (fun h => ⟨or_t (C.f10 h).1, (C.f10 h).2⟩), C.f11, (fun h => ⟨or_t (C.ph h).1, or_t (C.ph h).2.1, or_t (C.ph h).2.2⟩)⟩⟩
    | 1, _ =>
      obtain rfl := (Option.some.inj ho)
      clear haft ho
      have C := hide C
      go_wp2
      have C := C.out
      exact HK.out _ _ ⟨z4, y0, _, y2, y3, y4, y5, y6, y7, y8, y9, y10, y11, z17, rfl, ⟨C.bel, C.b0, C.b1, C.ba, C.bb, C.f0, (fun _ => rfl), C.f2, C.f3, C.f4, C.f5, (fun h => ⟨or_t (C.f6 h).1, (C.f6 h).2⟩), C.f7, C.f8, C.f9, (fun h => ⟨or_t (C.f10 h).1, (C.f10 h).2⟩), C.f11, (fun h => ⟨or_t (C.ph h).1, or_t (C.ph h).2.1, or_t (C.ph h).2.2⟩)⟩⟩
    | 2, _ =>
      obtain rfl := (Option.some.inj ho)
      have g1 : q 1 = true := haft ⟨1, .data⟩ (by simp) rfl
      clear haft ho
      have e1 := C.f1 g1
      subst e1
      obtain ⟨q0, q1, q2, q3⟩ := four_of C.b0
      have C := hide C
      go_wp2
      have C := C.out
      exact HK.out _ _ ⟨z4, y0, _, _, y3, y4, y5, y6, y7, y8, y9, y10, y11, z17, rfl, ⟨C.bel, C.b0, C.b1, C.ba, C.bb, C.f0, C.f1, (fun _ => rfl), C.f3, C.f4, C.f5, (fun h => ⟨or_t (C.f6 h).1, (C.f6 h).2⟩), C.f7, C.f8, C.f9, (fun h => ⟨or_t (C.f10 h).1, (C.f10 h).2⟩), C.f11, (fun h => ⟨or_t (C.ph h).1, or_t (C.ph h).2.1, or_t (C.ph h).2.2⟩)⟩⟩
    | 3, _ =>
      obtain rfl := (Option.some.inj ho)
      have g0 : q 0 = true := haft ⟨0, .data⟩ (by simp) rfl
      have g2 : q 2 = true := haft ⟨2, .data⟩ (by simp) rfl
      clear haft ho
      obtain ⟨g0, e1, hE, hg0⟩ := C.f0 g0 hdi
      have e2 := C.f2 g2
      subst e1 e2
      have hO := own_empty hE hg0
      refine append_row w rfl (.tmp 5) (.tmp 7) 24 rfl W.heap.size 41 _ _ 6 48 Tryz.underlying24 HIN.out.1 HIN.out.2.1 HIN.out.2.2.1 HIN.out.2.2.2 rfl (by omega) _ rfl hO a n cap (is6 L) rfl (by rw [is6_len, HLl.out]) HNO.out (HL.out.later C.bel).news (is6_one L) (by unfold maxLen; omega) (by omega) C.bel.size ?_
      intro v' w' hown hgrow
      have hb : Below W.heap.size W w' := C.bel.grown hgrow C.bel.size fun k hk => (owns_block hO k hk).1
      exact HK.out _ _ ⟨z4, _, y1, _, _, y4, y5, y6, y7, y8, y9, y10, y11, z17, rfl, ⟨hb, (has_own C.b0 hO hgrow (by decide)), (has_own C.b1 hO hgrow (by decide)), (fun h => has_own (C.ba h) hO hgrow (by decide)), (fun h => has_own (C.bb h) hO hgrow (by decide)), (fun _ h => by cases h), C.f1, C.f2, (fun _ _ => hown), C.f4, (fun h h2 => by obtain ⟨g, h3, h4⟩ := C.f5 h h2; exact ⟨g, h3, h4.kept hgrow (has_ne h4 hE (by simp))⟩), (fun h => by have h2 := (C.f6 h).1; rw [hdi] at h2; cases h2), C.f7, C.f8, C.f9, (fun h => ⟨or_t (C.f10 h).1, (C.f10 h).2⟩), C.f11, (fun h => ⟨or_t (C.ph h).1, or_t (C.ph h).2.1, or_t (C.ph h).2.2⟩)⟩⟩
    | 4, _ =>
      obtain rfl := (Option.some.inj ho)
      clear haft ho
      have C := hide C
      go_wp2
      have C := C.out
      exact HK.out _ _ ⟨z4, y0, y1, y2, y3, _, y5, y6, y7, y8, y9, y10, y11, z17, rfl, ⟨C.bel, C.b0, C.b1, C.ba, C.bb, C.f0, C.f1, C.f2, C.f3, (fun _ => rfl), C.f5, (fun h => ⟨or_t (C.f6 h).1, (C.f6 h).2⟩), C.f7, C.f8, C.f9, (fun h => ⟨or_t (C.f10 h).1, (C.f10 h).2⟩), C.f11, (fun h => ⟨or_t (C.ph h).1, or_t (C.ph h).2.1, or_t (C.ph h).2.2⟩)⟩⟩
    | 5, _ =>
      obtain rfl := (Option.some.inj ho)
      have g4 : q 4 = true := haft ⟨4, .data⟩ (by simp) rfl
      clear haft ho
      have e1 := C.f4 g4
      subst e1
      have C := hide C
      go_wp2
      have C := C.out
      have hb : Below W.heap.size W (w.alloc (.cells (ia mk7) 41)) := C.bel.alloc C.bel.size _
      exact HK.out _ _ ⟨z4, y0, y1, y2, y3, _, _, y6, y7, y8, y9, y10, y11, z17, rfl, ⟨hb, (C.b0.alloc _), (C.b1.alloc _), (fun h => (C.ba h).alloc _), (fun h => (C.bb h).alloc _), (fun h h2 => by obtain ⟨g, h3, h4, h5⟩ := C.f0 h h2; exact ⟨g, h3, h4.alloc _, h5⟩), C.f1, C.f2, (fun h h2 => (C.f3 h h2).alloc _), C.f4, (fun _ _ => ⟨_, rfl, HasC.new w 41 (ia mk7)⟩), (fun h => ⟨or_t (C.f6 h).1, by obtain ⟨g, c, h3, h4⟩ := (C.f6 h).2; exact ⟨g, c, h3, h4.alloc _⟩⟩), C.f7, C.f8, C.f9, (fun h => ⟨or_t (C.f10 h).1, (C.f10 h).2⟩), C.f11, (fun h => ⟨or_t (C.ph h).1, or_t (C.ph h).2.1, or_t (C.ph h).2.2⟩)⟩⟩
    | 6, _ =>
      obtain rfl := (Option.some.inj ho)
      have g3 : q 3 = true := haft ⟨3, .data⟩ (by simp) rfl
      have g5 : q 5 = true := haft ⟨5, .data⟩ (by simp) rfl
      clear haft ho
      have hO := C.f3 g3 hdi
      obtain ⟨g, e2, hc⟩ := C.f5 g5 hdi
      subst e2
      refine append_one w rfl (.tmp 8) (.tmp 10) 24 rfl W.heap.size 41 _ _ 6 48 Tryz.underlying24 HIN.out.1 HIN.out.2.1 HIN.out.2.2.1 HIN.out.2.2.2 rfl (by omega) _ n (is6 L) rfl hO g (ia mk7) rfl rfl hc (by simp [Value.oneCell']) (by unfold maxLen; omega) (by omega) C.bel.size ?_
      intro gg c w' hown hgrow
      have hb : Below W.heap.size W w' := C.bel.grown hgrow C.bel.size fun k hk => (owns_block hO k hk).1
      exact HK.out _ _ ⟨z4, y0, y1, y2, y3, y4, _, _, y7, y8, y9, y10, y11, z17, rfl, ⟨hb, (has_own C.b0 hO hgrow (by decide)), (has_own C.b1 hO hgrow (by decide)), (fun h => has_own (C.ba h) hO hgrow (by decide)), (fun h => has_own (C.bb h) hO hgrow (by decide)), (fun _ h => by have h2 : q 3 = false := h; rw [g3] at h2; cases h2), C.f1, C.f2, (fun _ h => by cases h), C.f4, (fun _ h => by cases h), (fun _ => ⟨or_t g3, gg, c, rfl, hown⟩), C.f7, C.f8, C.f9, (fun h => by have h2 := (C.f10 h).1; rw [hdi] at h2; cases h2), C.f11, (fun h => ⟨or_t (C.ph h).1, rfl, or_t (C.ph h).2.2⟩)⟩⟩
    | 7, _ =>
      obtain rfl := (Option.some.inj ho)
      clear haft ho
      have C := hide C
      go_wp2
      have C := C.out
      exact HK.out _ _ ⟨z4, y0, y1, y2, y3, y4, y5, y6, _, y8, y9, y10, y11, z17, rfl, ⟨C.bel, C.b0, C.b1, C.ba, C.bb, C.f0, C.f1, C.f2, C.f3, C.f4, C.f5, (fun h => ⟨or_t (C.f6 h).1, (C.f6 h).2⟩), (fun _ => rfl), C.f8, C.f9, (fun h => ⟨or_t (C.f10 h).1, (C.f10 h).2⟩), C.f11, (fun h => ⟨or_t (C.ph h).1, or_t (C.ph h).2.1, or_t (C.ph h).2.2⟩)⟩⟩
    | 8, _ =>
      obtain rfl := (Option.some.inj ho)
      have g7 : q 7 = true := haft ⟨7, .data⟩ (by simp) rfl
      clear haft ho
      have e1 := C.f7 g7
      subst e1
      obtain ⟨q0, q1, q2, q3⟩ := four_of C.b0
      have C := hide C
      go_wp2
      have C := C.out
      exact HK.out _ _ ⟨z4, y0, y1, y2, y3, y4, y5, y6, _, _, y9, y10, y11, z17, rfl, ⟨C.bel, C.b0, C.b1, C.ba, C.bb, C.f0, C.f1, C.f2, C.f3, C.f4, C.f5, (fun h => ⟨or_t (C.f6 h).1, (C.f6 h).2⟩), C.f7, (fun _ => rfl), C.f9, (fun h => ⟨or_t (C.f10 h).1, (C.f10 h).2⟩), C.f11, (fun h => ⟨or_t (C.ph h).1, or_t (C.ph h).2.1, or_t (C.ph h).2.2⟩)⟩⟩
    | 9, _ =>
      obtain rfl := (Option.some.inj ho)
      have g8 : q 8 = true := haft ⟨8, .data⟩ (by simp) rfl
      clear haft ho
      have e1 := C.f8 g8
      subst e1
      have C := hide C
      go_wp2
      have C := C.out
      exact HK.out _ _ ⟨z4, y0, y1, y2, y3, y4, y5, y6, y7, _, _, y10, y11, z17, rfl, ⟨C.bel, C.b0, C.b1, C.ba, C.bb, C.f0, C.f1, C.f2, C.f3, C.f4, C.f5, (fun h => ⟨or_t (C.f6 h).1, (C.f6 h).2⟩), C.f7, C.f8, (fun _ => rfl), (fun h => ⟨or_t (C.f10 h).1, (C.f10 h).2⟩), C.f11, (fun h => ⟨or_t (C.ph h).1, or_t (C.ph h).2.1, or_t (C.ph h).2.2⟩)⟩⟩
    | 10, _ =>
      obtain rfl := (Option.some.inj ho)
      have g6 : q 6 = true := haft ⟨6, .data⟩ (by simp) rfl
      have g9 : q 9 = true := haft ⟨9, .data⟩ (by simp) rfl
      clear haft ho
      obtain ⟨-, g, c, e1, hO⟩ := C.f6 g6
      have e2 := C.f9 g9
      subst e1 e2
      obtain ⟨hc1, hc2⟩ := own_caps hO
      unfold maxLen at hc2
      have hc3 : n ≤ c := by omega
      clear hO
      have C := hide C
      go_wp2
      have C := C.out
      exact HK.out _ _ ⟨z4, y0, y1, y2, y3, y4, y5, _, y7, y8, _, _, y11, z17, rfl, ⟨C.bel, C.b0, C.b1, C.ba, (fun h => by have h2 := (C.ph h).1; rw [hdi] at h2; cases h2), C.f0, C.f1, C.f2, C.f3, C.f4, C.f5, (fun h => ⟨or_t (C.f6 g6).1, (C.f6 g6).2⟩), C.f7, C.f8, C.f9, (fun _ => ⟨g6, g, c, rfl, rfl⟩), C.f11, (fun h => ⟨or_t (C.ph h).1, or_t (C.ph h).2.1, or_t (C.ph h).2.2⟩)⟩⟩
    | 11, _ =>
      obtain rfl := (Option.some.inj ho)
      clear haft ho
      have C := hide C
      go_wp2
      have C := C.out
      exact HK.out _ _ ⟨z4, y0, y1, y2, y3, y4, y5, y6, y7, y8, y9, y10, _, z17, rfl, ⟨C.bel, C.b0, C.b1, C.ba, C.bb, C.f0, C.f1, C.f2, C.f3, C.f4, C.f5, (fun h => ⟨or_t (C.f6 h).1, (C.f6 h).2⟩), C.f7, C.f8, C.f9, (fun h => ⟨or_t (C.f10 h).1, (C.f10 h).2⟩), (fun _ => rfl), (fun h => ⟨or_t (C.ph h).1, or_t (C.ph h).2.1, or_t (C.ph h).2.2⟩)⟩⟩
    | 12, _ =>
      obtain rfl := (Option.some.inj ho)
      have g11 : q 11 = true := haft ⟨11, .data⟩ (by simp) rfl
      have g10 : q 10 = true := haft ⟨10, .data⟩ (by simp) rfl
      clear haft ho
      have e1 := C.f11 g11
      obtain ⟨g6, g, c, e2, e3⟩ := C.f10 g10
      have g3 := (C.f6 g6).1
      subst e1 e2 e3
      obtain ⟨q0, q1, q2, q3⟩ := four_of (C.ba hdi)
      have s2 := (C.ba hdi).frozen 2
      have C := hide C
      go_wp2
      have C := C.out
      have h4 := (C.ba hdi).set 2 (.slice (some ⟨g, 0, none⟩) n c)
      have hb := C.bel.setCell (p := ⟨W.heap.size + 2, 2, none⟩) (by simp) (.slice (some ⟨g, 0, none⟩) n c)
      exact HK.out _ _ ⟨z4, y0, y1, y2, y3, y4, y5, _, y7, y8, y9, _, _, z17, rfl, ⟨hb, (C.b0.other (p := ⟨W.heap.size + 2, 2, none⟩) (by simp) (.slice (some ⟨g, 0, none⟩) n c)), (C.b1.other (p := ⟨W.heap.size + 2, 2, none⟩) (by simp) (.slice (some ⟨g, 0, none⟩) n c)), (fun h => by cases h), (fun _ => h4), (fun _ h => by have h2 : q 3 = false := h; rw [g3] at h2; cases h2), C.f1, C.f2, (fun _ h => by have h2 : q 6 = false := h; rw [g6] at h2; cases h2), C.f4, (fun _ h => by have h2 : q 6 = false := h; rw [g6] at h2; cases h2), (fun _ => ⟨g3, by obtain ⟨g, c, h3, h5⟩ := (C.f6 g6).2; exact ⟨g, c, h3, owns_other h5 (C.ba hdi) (by decide) _⟩⟩), C.f7, C.f8, C.f9, (fun h => ⟨or_t (C.f10 h).1, (C.f10 h).2⟩), C.f11, (fun _ => ⟨g10, g6, g3⟩)⟩⟩
  rintro q a' V1 ⟨z4, y0, y1, y2, y3, y4, y5, y6, y7, y8, y9, y10, y11, z17, rfl, C⟩ hall
  have D : ∀ i, i < 13 → q i = true := hall
  obtain ⟨-, g, c, e1, e2⟩ := C.f10 (D 10 (by omega))
  obtain ⟨-, g', c', e3, hO⟩ := C.f6 (D 6 (by omega))
  subst e1 e2
  obtain ⟨rfl, rfl⟩ : g = g' ∧ c = c' := by cases e3; exact ⟨rfl, rfl⟩
  have HU := hide (C.bb (D 12 (by omega)))
  have HZ := hide C.b1
  have HB1 := hide C.bel
  have HO := hide hO
  clear e3 hO D hall C H0 H1 H2 HB
  obtain ⟨q0, q1, q2, q3⟩ := four_of HU.out
  obtain ⟨r0, r1, r2, r3⟩ := four_of HZ.out
  have s0 := HZ.out.frozen 0
  have s1 := HZ.out.frozen 1
  have s2 := HZ.out.frozen 2
  have s3 := HZ.out.frozen 3
  go_wp2_with fail
  have h4 := (((HZ.out.set 0 (.int .i64 f)).set 1 (.int .i64 d)).set 2 (.slice (some ⟨g, 0, none⟩) n c)).set 3 (.int .i64 o)
  have hO4 := owns_other (i := 3) (owns_other (i := 2) (owns_other (i := 1) (owns_other (i := 0) HO.out HZ.out (by decide) (.int .i64 f)) (HZ.out.set 0 (.int .i64 f)) (by decide) (.int .i64 d)) ((HZ.out.set 0 (.int .i64 f)).set 1 (.int .i64 d)) (by decide) (.slice (some ⟨g, 0, none⟩) n c)) (((HZ.out.set 0 (.int .i64 f)).set 1 (.int .i64 d)).set 2 (.slice (some ⟨g, 0, none⟩) n c)) (by decide) (.int .i64 o)
  have hb := (((HB1.out.setCell (p := ⟨W.heap.size + 1, 0, none⟩) (by simp) (.int .i64 f)).setCell (p := ⟨W.heap.size + 1, 1, none⟩) (by simp) (.int .i64 d)).setCell (p := ⟨W.heap.size + 1, 2, none⟩) (by simp) (.slice (some ⟨g, 0, none⟩) n c)).setCell (p := ⟨W.heap.size + 1, 3, none⟩) (by simp) (.int .i64 o)
  rw [← is6_snoc] at hO4
  exact bodyPost_ret (res_roomy h4 rfl) rfl ⟨g, c, rfl, hO4, hb⟩

end Go.Proofs.Cde

/-
  The document's Held: the code that Roomy made is as it was.
-/
namespace Go.Proofs.Cde
open Go.RowKit Go.IntWalk YtihbhbeaihdgnaaGreat.Knd Go.Sort
set_option linter.unusedVariables false

theorem sameB_self (f d o : Int) (L : List In) : sameB f d o L f d o L = true := by simp [sameB]

set_option maxRecDepth 100000 in
set_option maxHeartbeats 4000000 in
theorem heldC_any (f d o : Int) {a : Option Addr} {g n c cap : Nat} {L : List In} {W : World} (h1 : Ins W (some ⟨g, 0, none⟩) (n + 1) c (L ++ [mk7])) (h2 : Ins W a n cap L) :
    Calls Tryz.prog 9 #[.agg (cd f d (some ⟨g, 0, none⟩) n c o), .agg (cd f d a n cap o)] W fun r W' => r = .returned (.bool true) ∧ Below W.heap.size W W' := by
  have hb1 := bel (bel1 W (.cells (cd f d (some ⟨g, 0, none⟩) n c o) 26)) (bel1 (W.alloc (.cells (cd f d (some ⟨g, 0, none⟩) n c o) 26)) (.cells (cd f d a n cap o) 26))
  have HB := hide hb1
  have HC0 := hide ((HasC.new W 26 (cd f d (some ⟨g, 0, none⟩) n c o)).alloc (.cells (cd f d a n cap o) 26))
  have HD0 := hide (has_new1 W (.cells (cd f d (some ⟨g, 0, none⟩) n c o) 26) 26 (cd f d a n cap o))
  have hl := h2.len
  have h3 := h1.take (k := n) (by omega)
  rw [← hl, List.take_left, hl] at h3
  have hlc := h1.le
  have hn := h1.short
  obtain ⟨b, off, e, -, hat⟩ := (h1.later hb1).at (by omega)
  cases e
  obtain ⟨m0, -⟩ := hat n (by omega)
  have hm : (L ++ [mk7]).getD n i0 = mk7 := by rw [← hl]; simp
  rw [hm, Nat.zero_add] at m0
  change _ = some (Value.int .i64 7777) at m0
  have HS := hide fun (V : World) (hb : Below W.heap.size W V) => xsame_any f d o f d o (h3.later hb) (h2.later hb)
  rw [sameB_self] at HS
  have hw : IntKind.i64.wrap ((n : Int) + 1) = (n : Int) + 1 := by rw [IntKind.wrap_i64]; omega
  have i0 : (0 : Int) ≤ n := by omega
  have i1 : (n : Int) + 1 ≤ c := by omega
  have i2 : (0 : Int) ≤ (n : Int) + 1 := by omega
  have i3 : (n : Int) < (n : Int) + 1 := by omega
  clear hb1 h1 h2 h3 hl hat hm
  go_enter Tryz.func9, Tryz.ntmps9
  go_wp2_with fail
  obtain ⟨V0, hV0⟩ : ∃ V0, (W.alloc (.cells (cd f d (some ⟨g, 0, none⟩) n c o) 26)).alloc (.cells (cd f d a n cap o) 26) = V0 := ⟨_, rfl⟩
  rw [hV0] at HB HC0 HD0 m0 ⊢
  clear hV0
  obtain ⟨x0, x1, x2, x3⟩ := four_of HC0.out
  obtain ⟨y0, y1, y2, y3⟩ := four_of HD0.out
  have k0 := cell_regrown x0
  have k1 := cell_regrown x1
  have k2 := cell_regrown x2
  have k3 := cell_regrown x3
  have j0 := cell_regrown y0
  have j1 := cell_regrown y1
  have j2 := cell_regrown y2
  have j3 := cell_regrown y3
  have m1 := cell_regrown m0
  refine wp_region_quiet_below mixed0 (by kernel_rfl) ?_
  repeat (first | go_big_quiet_step (first
    | (go_at_call 26; exact Calls.regrown_of (HS.out _ (bel HB.out (below_regrown _ _ _))))))
  refine wpQuiet_nil ?_
  intro V2 hw'
  obtain ⟨⟨dq, osq⟩, hw''⟩ := hw'
  have hb := below_regrown V0 dq osq
  simp only at hw''
  rw [← hw''] at hb
  clear hw'' k0 k1 k2 k3 j0 j1 j2 j3 m1
  go_wp2_with fail
  go_ret
  exact ⟨rfl, bel HB.out hb⟩

end Go.Proofs.Cde
