/-
  The walk of SpanOf, over the document's Of.
-/
import Derived.Test.YtbandppkhknaoaaQo
import Derived.Test.YtbandppkhknaoaaEs
namespace Go.Proofs.Ytbandppkhknaoaa
open Go.RowKit Go.IntWalk Go.Sort
set_option linter.unusedVariables false

/-- A copy by append, behind an empty list of the call's own. -/
theorem append_copy {P : Program} (w : World) {ops : Array Oper} {rest : List Oper} {o : Oper} {a : Act} {Q : Exit → Act → World → Prop}
    (hg : o.guard = none) (s x : Operand) (t : TypeId) (hop : o.op = Op.call { callee := Callee.builtin Builtin.append, args := #[s, x], argTypes := #[t, t] })
    (base : Nat) (e : TypeId) (i : TypeInfo) (z : Value) (size bytes : Nat) (h1 : P.underlying t = some (.slice e)) (h2 : P.info? e = some i) (h3 : i.zero = some z) (h4 : i.size = size) (h5 : i.bytes = bytes) (h6 : z.cells.size = size) (h7 : 0 < size)
    (g : Nat) (hs : a.eval s = .slice (some ⟨g, 0, none⟩) 0 0) (hown : w.ownsRow base e size (.slice (some ⟨g, 0, none⟩) 0 0) 0 []) (ao : Option Addr) (m c : Nat) (news : List Value) (hx : a.eval x = .slice ao m c) (hn : news.length = m * size)
    (hnone : ao = none → m = 0 ∧ c = 0) (hc : ∀ ad, ao = some ad → ∀ j u, news[j]? = some u → w.cell? (ad.add j) = some u) (h1c : ∀ u ∈ news, u.oneCell' = true)
    (b1 : m ≤ maxLen) (b2 : m * bytes ≤ 140737488355328) (hbase : base ≤ w.heap.size)
    (hK : ∀ v' w', w'.ownsRow base e size v' m news → w.grownBy w' (some g) → wpList P ops Q rest (a.put o.dst v') w') :
    wpList P ops Q (o :: rest) a w := by
  cases ao with
  | none =>
    obtain ⟨rfl, rfl⟩ := hnone rfl
    have hnews : news = [] := List.eq_nil_of_length_eq_zero (by simpa using hn)
    subst hnews
    exact wpList_append_own_none hg s x t hop base e i size h1 h2 _ 0 [] hs hown hx (hK _ w hown (World.grownBy.refl _ _))
  | some ad =>
    refine wpList_append_own w hg s x t hop base e i z size bytes h1 h2 h3 h4 h5 h6 h7 _ 0 [] hs hown ad m c news hx hn (hc ad rfl) h1c (by omega) (by rw [Nat.zero_add]; exact b2) hbase ?_
    intro v' w' ho hgr hiff
    exact hK v' w' (by simpa using ho) hgr

theorem Spans.news {w : World} {a : Option Addr} {n cap : Nat} {L : List (Int × Int)} (h : Spans w a n cap L) : ∀ ad, a = some ad → ∀ j u, (sp64 L)[j]? = some u → w.cell? (ad.add j) = some u := by
  intro ad ha j u hu
  have hj : j < n * 2 := by
    have := (List.getElem?_eq_some_iff.1 hu).1
    rw [sp64_len, h.len] at this
    exact this
  obtain ⟨b, off, ha', _, hc⟩ := h.at (by omega)
  rw [ha] at ha'
  cases ha'
  rw [Addr.add_lit]
  obtain ⟨e1, e2⟩ := sp64_get L (j / 2) (by rw [h.len]; omega)
  obtain ⟨c1, c2⟩ := hc (j / 2) (by omega)
  rcases (show j = j / 2 * 2 ∨ j = j / 2 * 2 + 1 by omega) with e | e
  · rw [← e] at e1 c1
    rw [e1] at hu
    cases hu
    exact c1
  · rw [← e] at e2
    rw [e2] at hu
    cases hu
    rw [Nat.add_assoc, ← e] at c2
    exact c2

/-- The memory of SpanOf behind the copy. -/
structure Fo (w W : World) (op k s : Int) (a : Option Addr) (n cap : Nat) (a' : Option Addr) (cap' : Nat) (L : List (Int × Int)) : Prop where
  c : HasC W w.heap.size 24 (callC op k s a n cap)
  sp : Spans W a n cap L
  sq : Spans W a' n cap' L
  bel : Below w.heap.size w W
theorem Fo.later {w W W' : World} {op k s : Int} {a : Option Addr} {n cap : Nat} {a' : Option Addr} {cap' : Nat} {L : List (Int × Int)} (h : Fo w W op k s a n cap a' cap' L) (hb : Below W.heap.size W W') : Fo w W' op k s a n cap a' cap' L :=
  ⟨h.c.below hb, h.sp.later hb, h.sq.later hb, h.bel.trans (hb.mono h.bel.size)⟩

set_option maxRecDepth 100000 in
set_option maxHeartbeats 4000000 in
theorem spanOf_core (QO : ∀ (op k s : Int) (a : Option Addr) (n cap : Nat) (L : List (Int × Int)) (w : World), Spans w a n cap L →
      Calls Try.prog 10 #[.int .i64 op, .int .i64 k, .int .i64 s, .slice a n cap] w fun r w' => r = .returned (spV (ofZ op k s L)) ∧ Below w.heap.size w w')
    (op k s : Int) (a : Option Addr) (n cap : Nat) (L : List (Int × Int)) (w : World) (h : Spans w a n cap L) (hreach : n ≤ 8796093022000) :
    Calls Try.prog 3 #[.agg #[.int .i64 op, .int .i64 k, .int .i64 s, .slice a n cap]] w fun e w' => e = .returned (.bool true) ∧ Below w.heap.size w w' := by
  obtain ⟨i0, hi, hz0, hz1, hz2⟩ := info_parts info26
  have hC := HasC.new w 24 (callC op k s a n cap)
  have hB := bel1 w (.cells (callC op k s a n cap) 24)
  have hB1 := bel1 (w.alloc (.cells (callC op k s a n cap) 24)) (.cells #[] 26)
  have hs1 : (w.alloc (.cells (callC op k s a n cap) 24)).heap.size = w.heap.size + 1 := by simp
  have hO : ((w.alloc (.cells (callC op k s a n cap) 24)).alloc (.cells #[] 26)).ownsRow w.heap.size 26 2 (.slice (some ⟨w.heap.size + 1, 0, none⟩) 0 0) 0 [] := ⟨rfl, .inr ⟨w.heap.size + 1, 0, #[], rfl, by omega, by rw [← hs1]; exact heap_alloc_new _ _, Nat.le_refl _, Nat.zero_le _, rfl, rfl⟩⟩
  have hS1 := (h.later hB).later hB1
  have HN := hide hS1.news
  have hl : (sp64 L).length = n * 2 := by rw [sp64_len, h.len]
  have hnone : a = none → n = 0 ∧ cap = 0 := fun e => by have h1 := h.nil e; have h2 := h.le; omega
  have q3 := (hC.alloc (.cells #[] 26)).cell 3 rfl
  have HLen := hide h.len
  have HC := hide hC
  have HB := hide hB
  have HB1 := hide hB1
  have HO := hide hO
  have HS := hide (h.later hB)
  have HL := hide hl
  have HNO := hide hnone
  have HQ := hide QO
  clear hC hB hB1 hO h hS1 hl hnone QO
  go_enter Try.func3, Try.ntmps3
  go_wp2_with (at_builtin; refine append_copy _ rfl _ _ 22 rfl w.heap.size 26 i0 _ 2 16 Try.underlying22 hi hz0 hz1 hz2 rfl (by omega) (w.heap.size + 1) rfl HO.out a n cap (sp64 L) rfl HL.out HNO.out HN.out (sp64_one _) (by unfold maxLen; omega) (by omega) (by simp; omega) ?_; intro v' w2 hown' hgr0; have hb2 : Below (w.alloc (.cells (callC op k s a n cap) 24)).heap.size (w.alloc (.cells (callC op k s a n cap) 24)) w2 := HB1.out.grown hgr0 HB1.out.size (fun k h => by cases h; simp); obtain ⟨a', c', rfl, hJ⟩ := Spans.of_owns hown' HLen.out; have HF := hide (⟨HC.out.below hb2, HS.out.later hb2, hJ, bel HB.out hb2⟩ : Fo w w2 op k s a n cap a' c' L); clear hown' hgr0 hJ hb2 q3; obtain ⟨q0, q1, q2, q3⟩ := facts4 HF.out.c)
  have hm1 : n ≤ 9223372036854775807 := by omega
  clear HC HB HB1 HO HS HL HNO HN hi hz0 hz1 hz2 hreach hs1
  obtain ⟨⟨⟨lo, hi⟩, e⟩, hZ⟩ : ∃ Z, ofZ op k s L = Z := ⟨_, rfl⟩
  have HZ := hide hZ
  clear hZ
  have CO := of_any op k s a' n c' L w2 HF.out.sq
  rw [HZ.out] at CO
  refine CO.mono ?_
  clear CO
  rintro e' w3 ⟨rfl, hb3⟩
  have HF3 := hide (HF.out.later (bel hb3 (bel1 _ (cs lo hi))))
  have HX := hide (HasC.new w3 26 #[.int .i64 lo, .int .i64 hi])
  clear hb3 HF q0 q1 q2 q3
  obtain ⟨q0, q1, q2, q3⟩ := facts4 HF3.out.c
  go_wp2_with fail
  obtain ⟨g3, hg3⟩ : ∃ g, w3.heap.size = g := ⟨_, rfl⟩
  obtain ⟨W, hW⟩ : ∃ W, w3.alloc (.cells #[.int .i64 lo, .int .i64 hi] 26) = W := ⟨_, rfl⟩
  rw [hW] at HF3 HX ⊢
  rw [hg3] at HX ⊢
  clear hW hg3 q0 q1 q2 q3
  have CQ := HQ.out op k s a n cap L W HF3.out.sp
  rw [HZ.out] at CQ
  refine CQ.mono ?_
  clear CQ HQ HZ
  rintro e' w4 ⟨rfl, hb4⟩
  have HF4 := hide (HF3.out.later (bel hb4 (bel1 _ (cs lo hi))))
  have HX4 := hide (HX.out.below (bel hb4 (bel1 _ (cs lo hi))))
  have HY := hide (HasC.new w4 26 #[.int .i64 lo, .int .i64 hi])
  clear hb4 HF3 HX
  go_wp2_with fail
  obtain ⟨g4, hg4⟩ : ∃ g, w4.heap.size = g := ⟨_, rfl⟩
  obtain ⟨W', hW'⟩ : ∃ W, w4.alloc (.cells #[.int .i64 lo, .int .i64 hi] 26) = W := ⟨_, rfl⟩
  rw [hW'] at HF4 HX4 HY ⊢
  rw [hg4] at HY ⊢
  clear hW' hg4
  refine (awake_any _).mono ?_
  rintro e' w5 ⟨rfl, hb5⟩
  have HF5 := hide (HF4.out.later hb5)
  obtain ⟨x1, x2, -, -⟩ := facts2 (HX4.out.below hb5)
  obtain ⟨y1, y2, -, -⟩ := facts2 (HY.out.below hb5)
  clear hb5 HF4 HX4 HY
  go_wp2_with fail
  clear x1 x2 y1 y2
  go_loopw [8] (fun i wr => ∃ j q : Nat, j ≤ n ∧ i = .int .i64 j ∧ wr = w5.drewN q) (fun i _ => n - (intOf i).toNat)
  case atStart => exact ⟨0, 0, Nat.zero_le _, rfl, rfl⟩
  case round =>
    obtain ⟨j, q, hj, rfl, rfl⟩ := hrel
    by_cases hlt : j < n
    · obtain ⟨b1, o1, rfl, -, hc1⟩ := HF5.out.sp.at (by omega)
      obtain ⟨b2, o2, rfl, -, hc2⟩ := HF5.out.sq.at (by omega)
      obtain ⟨g1, g2⟩ := hc1 j hlt
      obtain ⟨g3, g4⟩ := hc2 j hlt
      clear hc1 hc2
      generalize (L.getD j (0, 0)).1 = x at *
      generalize (L.getD j (0, 0)).2 = y at *
      have q3 := HF5.out.c.cell 3 rfl
      have hj0 : (0 : Int) ≤ (j : Int) := by omega
      have hj1 : (j : Int) < (n : Int) := by omega
      go_wp2_with fail
      go_quiet (fail)
      go_wp2_with fail
      go_roundw
      case rel => exact ⟨j + 1, _, by omega, by go_num, rfl⟩
      case measure => simp [intOf]; omega
    · go_wp2_with fail
      go_ret
      exact ⟨rfl, bdrew HF5.out.bel _⟩

end Go.Proofs.Ytbandppkhknaoaa
