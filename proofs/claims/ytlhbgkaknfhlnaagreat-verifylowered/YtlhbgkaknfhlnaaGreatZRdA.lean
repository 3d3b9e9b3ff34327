/-
  The reader of package parse in memory: what it holds, and what stays.
-/
import Derived.Test.YtlhbgkaknfhlnaaGreatZLxA
import Derived.Test.YtlhbgkaknfhlnaaGreatZGrA
import Derived.WalkLawsBesides
import Derived.Deep.QuietTactic
import Derived.BigQuiet
namespace Go.Proofs.YtlhbgkaknfhlnaaGreat
open Go.RowKit Go.IntWalk Lx Pz
set_option linter.unusedVariables false

def nd9 (n : Nd) : List Value := [.int .i64 n.op, .int .i64 n.a, .int .i64 n.b, .int .i64 n.c, .int .i64 n.k, .int .i64 n.back, .int .i64 n.co, .int .i64 n.x, .int .i64 n.y]
def nd64 (NS : List Nd) : List Value := NS.flatMap nd9
theorem nd64_len (NS : List Nd) : (nd64 NS).length = NS.length * 9 := by
  induction NS with
  | nil => rfl
  | cons p L ih => simp [nd64, nd9] at *; omega
theorem nd64_snoc (NS : List Nd) (n : Nd) : nd64 (NS ++ [n]) = nd64 NS ++ nd9 n := by simp [nd64]
abbrev tx64 (L : List Txt) : List Value := L.map fun s => .string (sB s)
abbrev in64 (L : List Int) : List Value := L.map fun k => .int .i64 k

/-- Blocks of other types than these stay. -/
structure Kp (S : List TypeId) (W W' : World) : Prop where
  size : W.heap.size ≤ W'.heap.size
  block : ∀ (k : Nat) (cs : Array Value) (t : TypeId) (fr : Nat × Nat), W.heap[k]? = some (.cells cs t fr) → t ∉ S → W'.heap[k]? = some (.cells cs t fr)
theorem Kp.refl (S : List TypeId) (W : World) : Kp S W W := ⟨Nat.le_refl _, fun _ _ _ _ h _ => h⟩
theorem Kp.trans {S : List TypeId} {a b c : World} (h : Kp S a b) (k : Kp S b c) : Kp S a c :=
  ⟨Nat.le_trans h.size k.size, fun i cs t fr hi ht => k.block i cs t fr (h.block i cs t fr hi ht) ht⟩
theorem Kp.mono {S S' : List TypeId} {a b : World} (h : Kp S a b) (hs : ∀ t ∈ S, t ∈ S') : Kp S' a b := ⟨h.size, fun i cs t fr hi ht => h.block i cs t fr hi fun hm => ht (hs t hm)⟩
theorem Kp.of_below (S : List TypeId) {a b : World} (h : Below a.heap.size a b) : Kp S a b :=
  ⟨h.size, fun i cs t fr hi _ => (h.block i (Array.getElem?_eq_some_iff.1 hi).1).trans hi⟩
theorem Kp.grown {S : List TypeId} {W W' : World} {row : Option Nat} (hg : W.grownBy W' row) (hr : ∀ k, row = some k → ∃ cs t fr, W.heap[k]? = some (.cells cs t fr) ∧ t ∈ S) : Kp S W W' := by
  refine ⟨hg.size, fun i cs t fr hi ht => (hg.block i (Array.getElem?_eq_some_iff.1 hi).1 ?_).trans hi⟩
  intro e
  obtain ⟨cs', t', fr', h', hm⟩ := hr i e.symm
  rw [hi] at h'
  cases h'
  exact ht hm
theorem Kp.set {S : List TypeId} {W : World} {b : Nat} {t : TypeId} {cs : Array Value} (h : HasC W b t cs) (ht : t ∈ S) (i : Nat) (u : Value) : Kp S W (W.setCell ⟨b, i, none⟩ u) := by
  refine ⟨by simp [World.setCell], fun k cs' t' fr hk hn => ?_⟩
  by_cases e : k = b
  · subst e
    rw [show W.heap[k]? = _ from h] at hk
    cases hk
    exact absurd ht hn
  · exact (Below.heap_setCell W ⟨b, i, none⟩ u k e).trans hk
theorem HasC.kp {S : List TypeId} {W W' : World} {b : Nat} {t : TypeId} {cs : Array Value} (h : HasC W b t cs) (hk : Kp S W W') (ht : t ∉ S) : HasC W' b t cs := hk.block b cs t (0, 0) h ht
theorem owns_kp {S : List TypeId} {W W' : World} {base : Nat} {e : TypeId} {size : Nat} {v : Value} {n : Nat} {xs : List Value} (h : W.ownsRow base e size v n xs) (hk : Kp S W W') (ht : e ∉ S) : W'.ownsRow base e size v n xs := by
  refine ⟨h.1, ?_⟩
  rcases h.2 with hn | ⟨g, cap, cur, rfl, hb, hgg, rest⟩
  · exact .inl hn
  · exact .inr ⟨g, cap, cur, rfl, hb, hk.block g _ _ _ hgg ht, rest⟩
theorem owns_block {W : World} {base : Nat} {e : TypeId} {size : Nat} {v : Value} {n : Nat} {xs : List Value} (h : W.ownsRow base e size v n xs) : ∀ k, v.ownBlock = some k → base ≤ k ∧ ∃ cs fr, W.heap[k]? = some (.cells cs e fr) := by
  intro k hk
  rcases h.2 with ⟨rfl, _⟩ | ⟨g, cap, cur, rfl, hb, hgg, rest⟩
  · simp [Value.ownBlock] at hk
  · simp [Value.ownBlock] at hk
    subst hk
    exact ⟨hb, _, _, hgg⟩

/-- A slice of tokens, and that its block is one of tokens. -/
structure Tz (W : World) (a : Option Addr) (n cap : Nat) (T : List Tok) : Prop where
  t : Toks W a n cap T
  ty : ∀ x, a = some x → ∃ cs fr, W.heap[x.block]? = some (.cells cs 89 fr)
theorem Tz.kp {S : List TypeId} {W W' : World} {a : Option Addr} {n cap : Nat} {T : List Tok} (h : Tz W a n cap T) (hk : Kp S W W') (ht : 89 ∉ S) : Tz W' a n cap T := by
  refine ⟨h.t.of_cells fun b off ha hn i => ?_, fun x hx => ?_⟩
  · obtain ⟨cs, fr, hc⟩ := h.ty _ ha
    have h2 := hk.block _ _ _ _ hc ht
    exact World.cell?_of_block (a := ⟨b, i, none⟩) (h2.trans hc.symm)
  · obtain ⟨cs, fr, hc⟩ := h.ty x hx
    exact ⟨cs, fr, hk.block _ _ _ _ hc ht⟩

/-- The cells of a reader. -/
structure Mm where
  la : Option Addr
  ln : Nat
  lc : Nat
  nv : Value
  bv : Value
  dv : Value
  root : Int
abbrev Mm.cs (m : Mm) : Array Value := #[.slice m.la m.ln m.lc, m.nv, m.bv, m.dv, .int .i64 m.root]

structure Rd (w W : World) (b : Nat) (m : Mm) (T : List Tok) (NM : List Txt) (BS : List Int) (NS : List Nd) : Prop where
  blk : HasC W b 69 m.cs
  base : w.heap.size ≤ b
  toks : Tz W m.la m.ln m.lc T
  names : W.ownsRow w.heap.size 9 1 m.nv NM.length (tx64 NM)
  binds : W.ownsRow w.heap.size 3 1 m.bv BS.length (in64 BS)
  nodes : W.ownsRow w.heap.size 78 9 m.dv NS.length (nd64 NS)
  wf : ∀ t ∈ T, Wf t
  old : Below w.heap.size w W
theorem Rd.later {w W W' : World} {b : Nat} {m : Mm} {T : List Tok} {NM : List Txt} {BS : List Int} {NS : List Nd} (h : Rd w W b m T NM BS NS) (hb : Below W.heap.size W W') : Rd w W' b m T NM BS NS := by
  have hk := Kp.of_below [] hb
  exact ⟨h.blk.kp hk (by simp), h.base, h.toks.kp hk (by simp), owns_kp h.names hk (by simp), owns_kp h.binds hk (by simp), owns_kp h.nodes hk (by simp), h.wf, Go.Proofs.YtlhbgkaknfhlnaaGreat.bel h.old hb⟩

/- worlds that differ from W in block b, and in new blocks -/
theorem gb_below {W F : World} (b : Nat) (h : Below W.heap.size W F) : W.grownBy F (some b) := ⟨h.os, h.tape, h.output, h.size, fun k hk _ => h.block k hk⟩
theorem gb_set {W F : World} {b : Nat} (h : W.grownBy F (some b)) {p : Addr} (hp : p.block = b ∨ W.heap.size ≤ p.block) (u : Value) : W.grownBy (F.setCell p u) (some b) := by
  refine ⟨h.os, h.tape, h.output, by have := h.size; simp [World.setCell]; omega, fun k hk hne => (Below.heap_setCell F p u k ?_).trans (h.block k hk hne)⟩
  rcases hp with hp | hp
  · rw [hp]; simpa using hne
  · omega
theorem gb_alloc {W F : World} {b : Nat} (h : W.grownBy F (some b)) (o : Obj) : W.grownBy (F.alloc o) (some b) :=
  ⟨h.os, h.tape, h.output, by have := h.size; simp; omega, fun k hk hne => (Below.heap_alloc F o k (by have := h.size; omega)).trans (h.block k hk hne)⟩
theorem gb_later {W F F' : World} {b : Nat} (h : W.grownBy F (some b)) (k : Below F.heap.size F F') : W.grownBy F' (some b) :=
  ⟨k.os.trans h.os, k.tape.trans h.tape, k.output.trans h.output, Nat.le_trans h.size k.size, fun i hi hne => (k.block i (by have := h.size; omega)).trans (h.block i hi hne)⟩
theorem Kp.gb {S : List TypeId} {W F : World} {b : Nat} {t : TypeId} {cs : Array Value} (h : W.grownBy F (some b)) (hb : HasC W b t cs) (ht : t ∈ S) : Kp S W F :=
  Kp.grown h fun k hk => by cases hk; exact ⟨cs, t, _, hb, ht⟩
theorem Rd.moved {w W F : World} {b : Nat} {m m' : Mm} {T T' : List Tok} {NM : List Txt} {BS : List Int} {NS : List Nd} (h : Rd w W b m T NM BS NS) (hF : W.grownBy F (some b))
    (hb : HasC F b 69 m'.cs) (h1 : m'.nv = m.nv) (h2 : m'.bv = m.bv) (h3 : m'.dv = m.dv) (ht : Tz W m'.la m'.ln m'.lc T') (hw : ∀ t ∈ T', t ∈ T) : Rd w F b m' T' NM BS NS := by
  have hk : Kp [69] W F := Kp.gb hF h.blk (by simp)
  exact ⟨hb, h.base, ht.kp hk (by decide), by rw [h1]; exact owns_kp h.names hk (by decide), by rw [h2]; exact owns_kp h.binds hk (by decide), by rw [h3]; exact owns_kp h.nodes hk (by decide), fun t ht => h.wf t (hw t ht),
    h.old.grown hF h.old.size (fun k hk => by cases hk; exact h.base)⟩

/-- The tokens behind the first. -/
theorem Tz.tail {W : World} {g off n cap : Nat} {t : Tok} {T : List Tok} (h : Tz W (some ⟨g, off, none⟩) n cap (t :: T)) :
    (cap = 1 → Tz W (some ⟨g, off, none⟩) (n - 1) 0 T) ∧ (cap ≠ 1 → Tz W (some ⟨g, off + 3, none⟩) (n - 1) (cap - 1) T) := by
  have hl := h.t.len
  have hle := h.t.le
  have hmx := h.t.max
  rw [List.length_cons] at hl
  constructor
  · intro hc
    exact ⟨⟨by omega, by omega, by unfold maxLen; omega, (fun e => by cases e), .inl (by omega)⟩, h.ty⟩
  · intro hc
    refine ⟨⟨by omega, by omega, by omega, (fun e => by cases e), ?_⟩, fun x hx => by cases hx; exact h.ty ⟨g, off, none⟩ rfl⟩
    by_cases hn : n - 1 = 0
    · exact .inl hn
    · obtain ⟨b, o, hb, _, hcell⟩ := h.t.at (by omega)
      cases hb
      refine .inr ⟨g, off + 3, rfl, fun i hi => ?_⟩
      have := hcell (i + 1) (by omega)
      rw [List.getD_cons_succ, show off + (i + 1) * 3 = off + 3 + i * 3 by omega] at this
      exact this

/-- The next token; none of any kind behind the last. -/
def hd (T : List Tok) : Tok := T.headD t0
theorem t0_text : t0.text = [] := rfl

/-- A text that is no program gives up so. -/
abbrev pan : Ending := .panicked [{ v := .iface 31 (.int .i64 10), recovered := false }]

abbrev ptr (b : Nat) : Value := .pointer (some ⟨b, 0, none⟩)


set_option maxHeartbeats 1000000 in
theorem peek_any {w W : World} {b : Nat} {m : Mm} {T : List Tok} {NM : List Txt} {BS : List Int} {NS : List Nd} (h : Rd w W b m T NM BS NS) :
    Calls Tryz.prog 81 #[ptr b] W fun e W' => e = .returned (.agg (tc (hd T).kind (sB (hd T).text) (hd T).pos)) ∧ Below W.heap.size W W' := by
  obtain ⟨la, ln, lc, nv, bv, dv, root⟩ := m
  have c0 := cell_old (o := .cells (tc 0 ⟨#[]⟩ 0) 89) h.blk.lt (i := 0) |>.trans (h.blk.cell 0 rfl)
  have hl := h.toks.t.len
  have hmx := h.toks.t.max
  have hle := h.toks.t.le
  simp only at c0 hl hmx hle
  unfold maxLen at hmx
  cases T with
  | nil =>
    obtain rfl : ln = 0 := by simpa using hl.symm
    clear hl h
    go_enter Tryz.func81, Tryz.ntmps81
    go_wp2
    exact bodyPost_ret (v := .agg (tc 0 ⟨#[]⟩ 0)) (by simp [results, Tryz.results81, go_sem]) rfl ⟨rfl, bel1 _ _⟩
  | cons t T =>
    rw [List.length_cons] at hl
    obtain ⟨g, off, rfl, hg, hc⟩ := h.toks.t.at (by simp only; omega)
    obtain ⟨d0, d1, d2⟩ := hc 0 (by simp only; omega)
    simp only [Nat.zero_mul, Nat.add_zero, List.getD_cons_zero] at d0 d1 d2
    have e0 := (cell_old (o := .cells (tc 0 ⟨#[]⟩ 0) 89) hg (i := off)).trans d0
    have e1 := (cell_old (o := .cells (tc 0 ⟨#[]⟩ 0) 89) hg (i := off + 1)).trans d1
    have e2 := (cell_old (o := .cells (tc 0 ⟨#[]⟩ 0) 89) hg (i := off + 2)).trans d2
    have h0 : 0 < ln := by omega
    clear hc d0 d1 d2 h hg
    have hn : ((ln : Int) == 0) = false := by simp; omega
    go_enter Tryz.func81, Tryz.ntmps81
    go_wp2
    exact bodyPost_ret (v := .agg (tc t.kind (sB t.text) t.pos)) (by simp [results, Tryz.results81, go_sem]) rfl ⟨rfl, bel1 _ _⟩

end Go.Proofs.YtlhbgkaknfhlnaaGreat

/-
  The reader of package parse: next, pass, need.
-/
namespace Go.Proofs.YtlhbgkaknfhlnaaGreat
open Go.RowKit Go.IntWalk Lx Pz
set_option linter.unusedVariables false

abbrev SX : List TypeId := [78, 69]

theorem wf_kind {t : Tok} (h : Wf t) : (t.kind == 0) = false := by
  rcases h with ⟨h, -⟩ | ⟨h, -⟩ | ⟨h, -⟩ <;> rw [h] <;> decide

set_option maxRecDepth 100000 in
set_option maxHeartbeats 1000000 in
theorem next_nil {w W : World} {b : Nat} {m : Mm} {NM : List Txt} {BS : List Int} {NS : List Nd} (h : Rd w W b m [] NM BS NS) :
    Calls Tryz.prog 82 #[ptr b] W fun e W' => e = pan ∧ Below W.heap.size W W' := by
  have HR := hide (h.later (bel1 W (.cells (tc 0 ⟨#[]⟩ 0) 89)))
  clear h
  go_enter Tryz.func82, Tryz.ntmps82
  go_wp2_with fail
  refine (peek_any HR.out).mono ?_
  rintro e W1 ⟨rfl, hb⟩
  have HB := hide (bel (bel1 W (.cells (tc 0 ⟨#[]⟩ 0) 89)) hb)
  clear hb
  rw [show (hd []).kind = 0 from rfl, show sB (hd []).text = ⟨#[]⟩ from rfl, show ((hd []).pos : Int) = 0 from rfl]
  go_wp2_with fail
  exact ⟨rfl, rfl, bel HB.out (bel1 _ _)⟩

theorem next_end {w W W1 : World} {b : Nat} {m : Mm} {t : Tok} {T : List Tok} {NM : List Txt} {BS : List Int} {NS : List Nd} (hW : Rd w W b m (t :: T) NM BS NS) (hB : Below W.heap.size W W1)
    (hH : HasC W1 W.heap.size 89 (tc 0 ⟨#[]⟩ 0)) {la : Option Addr} {ln lc : Nat} (hz : Tz W la ln lc T) :
    ∃ F, (((((W1.setCell ⟨b, 0, none⟩ (.slice la ln lc)).alloc (.cells (tc t.kind (sB t.text) t.pos) 89)).setCell ⟨W.heap.size, 0, none⟩ (.int .i64 t.kind)).setCell ⟨W.heap.size, 1, none⟩ (.string (sB t.text))).setCell ⟨W.heap.size, 2, none⟩ (.int .i64 t.pos)) = F ∧
      (F.cell? ⟨W.heap.size, 0, none⟩ = some (.int .i64 t.kind) ∧ F.cell? ⟨W.heap.size, 1, none⟩ = some (.string (sB t.text)) ∧ F.cell? ⟨W.heap.size, 2, none⟩ = some (.int .i64 t.pos)) ∧ (∃ m', Rd w F b m' T NM BS NS) ∧ Kp SX W F := by
  refine ⟨_, rfl, ?_⟩
  have hbW := hW.blk.lt
  have h1 := (hH.other (p := ⟨b, 0, none⟩) (show W.heap.size ≠ b by omega) (.slice la ln lc)).alloc (.cells (tc t.kind (sB t.text) t.pos) 89)
  have h2 := ((h1.set 0 (.int .i64 t.kind)).set 1 (.string (sB t.text))).set 2 (.int .i64 t.pos)
  have hg : W.grownBy _ (some b) := gb_set (gb_set (gb_set (gb_alloc (gb_set (gb_below b hB) (p := ⟨b, 0, none⟩) (.inl rfl) (.slice la ln lc)) (.cells (tc t.kind (sB t.text) t.pos) 89)) (p := ⟨W.heap.size, 0, none⟩) (.inr (Nat.le_refl _)) (.int .i64 t.kind)) (p := ⟨W.heap.size, 1, none⟩) (.inr (Nat.le_refl _)) (.string (sB t.text))) (p := ⟨W.heap.size, 2, none⟩) (.inr (Nat.le_refl _)) (.int .i64 t.pos)
  have hb := ((((hW.blk.below hB).set 0 (.slice la ln lc)).alloc (.cells (tc t.kind (sB t.text) t.pos) 89)).other (p := ⟨W.heap.size, 0, none⟩) (show b ≠ W.heap.size by omega) (.int .i64 t.kind)).other (p := ⟨W.heap.size, 1, none⟩) (show b ≠ W.heap.size by omega) (.string (sB t.text)) |>.other (p := ⟨W.heap.size, 2, none⟩) (show b ≠ W.heap.size by omega) (.int .i64 t.pos)
  exact ⟨⟨h2.cell 0 rfl, h2.cell 1 rfl, h2.cell 2 rfl⟩, ⟨⟨la, ln, lc, m.nv, m.bv, m.dv, m.root⟩, hW.moved hg hb rfl rfl rfl hz (fun t h => List.mem_cons_of_mem _ h)⟩, Kp.gb hg hW.blk (by decide)⟩

set_option maxRecDepth 100000 in
set_option maxHeartbeats 1000000 in
theorem next_cons {w W : World} {b : Nat} {m : Mm} {t : Tok} {T : List Tok} {NM : List Txt} {BS : List Int} {NS : List Nd} (h : Rd w W b m (t :: T) NM BS NS) :
    Calls Tryz.prog 82 #[ptr b] W fun e W' => e = .returned (.agg (tc t.kind (sB t.text) t.pos)) ∧ (∃ m', Rd w W' b m' T NM BS NS) ∧ Kp SX W W' := by
  have HR := hide (h.later (bel1 W (.cells (tc 0 ⟨#[]⟩ 0) 89)))
  have hk := wf_kind (h.wf t (by simp))
  have HW := hide h
  clear h
  go_enter Tryz.func82, Tryz.ntmps82
  go_wp2_with fail
  refine (peek_any HR.out).mono ?_
  rintro e W1 ⟨rfl, hb⟩
  have HB := hide (bel (bel1 W (.cells (tc 0 ⟨#[]⟩ 0) 89)) hb)
  have HR1 := hide (HR.out.later hb)
  have HH := hide ((HasC.new W 89 (tc 0 ⟨#[]⟩ 0)).below hb)
  clear hb HR
  obtain ⟨la, ln, lc, nv, bv, dv, root⟩ := m
  have hlt := HR1.out.blk.lt
  have c0 := (cell_old (o := .cells (tc t.kind (sB t.text) t.pos) 89) hlt (i := 0)).trans (HR1.out.blk.cell 0 rfl)
  have z0 := (HR1.out.blk.alloc (.cells (tc t.kind (sB t.text) t.pos) 89)).frozen 0
  have hl := HR1.out.toks.t.len
  have hmx := HR1.out.toks.t.max
  have hle := HR1.out.toks.t.le
  simp only [List.length_cons] at c0 hl hmx hle
  unfold maxLen at hmx
  obtain ⟨g, off, hla, hg, -⟩ := HR1.out.toks.t.at (by simp only; omega)
  simp only at hla
  subst hla
  have h0 : 1 ≤ ln := by omega
  clear hg hl
  rw [show (hd (t :: T)).kind = t.kind from rfl, show sB (hd (t :: T)).text = sB t.text from rfl, show ((hd (t :: T)).pos : Int) = (t.pos : Int) from rfl]
  have hbW := HW.out.blk.lt
  by_cases h1 : lc = 1
  · subst h1
    obtain rfl : ln = 1 := by omega
    have HC1 := hide ((HH.out.other (p := ⟨b, 0, none⟩) (show W.heap.size ≠ b by omega) (.slice (some ⟨g, off, none⟩) 0 0)).alloc (.cells (tc t.kind (sB t.text) t.pos) 89))
    obtain ⟨s0, s1, s2⟩ := facts3 HC1.out
    obtain ⟨y0, y1, y2⟩ := free3 HC1.out
    go_wp2_with fail
    obtain ⟨F, hF, ⟨f0, f1, f2⟩, hR, hK⟩ := next_end (la := some ⟨g, off, none⟩) (ln := 0) (lc := 0) HW.out HB.out HH.out (HW.out.toks.tail.1 rfl)
    exact bodyPost_ret (v := .agg (tc t.kind (sB t.text) t.pos)) (by rw [hF]; simp [results, Tryz.results82, go_sem, f0, f1, f2]) rfl ⟨rfl, by rw [hF]; exact hR, by rw [hF]; exact hK⟩
  · have HC1 := hide ((HH.out.other (p := ⟨b, 0, none⟩) (show W.heap.size ≠ b by omega) (.slice (some ⟨g, off + 3, none⟩) (ln - 1) (lc - 1))).alloc (.cells (tc t.kind (sB t.text) t.pos) 89))
    obtain ⟨s0, s1, s2⟩ := facts3 HC1.out
    obtain ⟨y0, y1, y2⟩ := free3 HC1.out
    go_wp2_with fail
    obtain ⟨F, hF, ⟨f0, f1, f2⟩, hR, hK⟩ := next_end (la := some ⟨g, off + 3, none⟩) (ln := ln - 1) (lc := lc - 1) HW.out HB.out HH.out (HW.out.toks.tail.2 h1)
    exact bodyPost_ret (v := .agg (tc t.kind (sB t.text) t.pos)) (by rw [hF]; simp [results, Tryz.results82, go_sem, f0, f1, f2]) rfl ⟨rfl, by rw [hF]; exact hR, by rw [hF]; exact hK⟩

/-- Of any list of tokens. -/
def NextP (w W : World) (b : Nat) (T : List Tok) (NM : List Txt) (BS : List Int) (NS : List Nd) (e : Ending) (W' : World) : Prop :=
  (T = [] ∧ e = pan ∧ Below w.heap.size w W') ∨ (∃ t T', T = t :: T' ∧ Wf t ∧ e = .returned (.agg (tc t.kind (sB t.text) t.pos)) ∧ (∃ m', Rd w W' b m' T' NM BS NS) ∧ Kp SX W W')
theorem next_any {w W : World} {b : Nat} {m : Mm} {T : List Tok} {NM : List Txt} {BS : List Int} {NS : List Nd} (h : Rd w W b m T NM BS NS) :
    Calls Tryz.prog 82 #[ptr b] W fun e W' => NextP w W b T NM BS NS e W' := by
  cases T with
  | nil => exact (next_nil h).mono fun e W' ⟨h1, h2⟩ => .inl ⟨rfl, h1, bel h.old h2⟩
  | cons t T => exact (next_cons h).mono fun e W' ⟨h1, h2, h3⟩ => .inr ⟨t, T, rfl, h.wf t (by simp), h1, h2, h3⟩

/-- A token's fields. -/
theorem fldT0 : ∀ (k : Int) (s : ByteArray) (p : Int) (w : World), (Instr.field 89 (.agg (tc k s p)) 0).run Tryz.prog w = .ok (.int .i64 k) w := by
  intro k s p w; simp [Instr.field, asAgg, go_sem]
theorem fldT1 : ∀ (k : Int) (s : ByteArray) (p : Int) (w : World), (Instr.field 89 (.agg (tc k s p)) 1).run Tryz.prog w = .ok (.string s) w := by
  intro k s p w; simp [Instr.field, asAgg, go_sem]

theorem text_ne {s t : ByteArray} (h : bs s ≠ bs t) : (s.toList == t.toList) = false := by
  rw [toList_bs, toList_bs]
  simpa using h

set_option maxRecDepth 100000 in
set_option maxHeartbeats 1000000 in
/-- pass, where the next token has that text. -/
theorem pass_yes {w W : World} {b : Nat} {m : Mm} {t : Tok} {T : List Tok} {NM : List Txt} {BS : List Int} {NS : List Nd} (h : Rd w W b m (t :: T) NM BS NS) (s : ByteArray) (hs : t.text = bs s) :
    Calls Tryz.prog 48 #[ptr b, .string s] W fun e W' => e = .returned (.bool true) ∧ (∃ m', Rd w W' b m' T NM BS NS) ∧ Kp SX W W' := by
  have HW := hide h
  clear h
  have F1 := fldT1
  go_enter Tryz.func48, Tryz.ntmps48
  go_wp2_with fail
  refine (peek_any HW.out).mono ?_
  rintro e W1 ⟨rfl, hb⟩
  have HR := hide (HW.out.later hb)
  have HK := hide (Kp.of_below SX hb)
  rw [show sB (hd (t :: T)).text = s by show sB t.text = s; rw [hs, sB_bs]]
  clear hb HW hs
  go_wp2_with fail
  refine (next_cons HR.out).mono ?_
  rintro e W2 ⟨rfl, hR, hk⟩
  have HR2 := hide hR
  have HK2 := hide (HK.out.trans hk)
  clear hR hk HK
  go_wp2_with fail
  go_ret
  exact ⟨rfl, HR2.out, HK2.out⟩

set_option maxRecDepth 100000 in
set_option maxHeartbeats 1000000 in
/-- pass, where it has not. -/
theorem pass_no {w W : World} {b : Nat} {m : Mm} {T : List Tok} {NM : List Txt} {BS : List Int} {NS : List Nd} (h : Rd w W b m T NM BS NS) (s : ByteArray) (hs : (hd T).text ≠ bs s) :
    Calls Tryz.prog 48 #[ptr b, .string s] W fun e W' => e = .returned (.bool false) ∧ Below W.heap.size W W' := by
  have HW := hide h
  have hne := text_ne (s := sB (hd T).text) (t := s) hs
  clear h hs
  have F1 := fldT1
  go_enter Tryz.func48, Tryz.ntmps48
  go_wp2_with fail
  refine (peek_any HW.out).mono ?_
  rintro e W1 ⟨rfl, hb⟩
  have HB := hide hb
  generalize sB (hd T).text = u at hne ⊢
  clear hb HW
  go_wp2_with fail
  go_ret
  exact ⟨rfl, HB.out⟩

set_option maxRecDepth 100000 in
set_option maxHeartbeats 1000000 in
theorem need_yes {w W : World} {b : Nat} {m : Mm} {t : Tok} {T : List Tok} {NM : List Txt} {BS : List Int} {NS : List Nd} (h : Rd w W b m (t :: T) NM BS NS) (s : ByteArray) (hs : t.text = bs s) :
    Calls Tryz.prog 85 #[ptr b, .string s] W fun e W' => e = .returned (.tuple #[]) ∧ (∃ m', Rd w W' b m' T NM BS NS) ∧ Kp SX W W' := by
  have HW := hide h
  have hs := hide hs
  clear h
  go_enter Tryz.func85, Tryz.ntmps85
  go_wp2_with fail
  refine (pass_yes HW.out _ hs.out).mono ?_
  rintro e W1 ⟨rfl, hR, hk⟩
  have HR := hide hR
  have HK := hide hk
  clear hR hk
  go_wp2_with fail
  refine bodyPost_end (results_none rfl _ _ _) rfl ?_
  exact ⟨rfl, HR.out, HK.out⟩

set_option maxRecDepth 100000 in
set_option maxHeartbeats 1000000 in
theorem need_no {w W : World} {b : Nat} {m : Mm} {T : List Tok} {NM : List Txt} {BS : List Int} {NS : List Nd} (h : Rd w W b m T NM BS NS) (s : ByteArray) (hs : (hd T).text ≠ bs s) :
    Calls Tryz.prog 85 #[ptr b, .string s] W fun e W' => e = pan ∧ Below W.heap.size W W' := by
  have HW := hide h
  have hs := hide hs
  clear h
  go_enter Tryz.func85, Tryz.ntmps85
  go_wp2_with fail
  refine (pass_no HW.out _ hs.out).mono ?_
  rintro e W1 ⟨rfl, hb⟩
  have HB := hide hb
  clear hb
  go_wp2_with fail
  exact ⟨rfl, rfl, HB.out⟩

end Go.Proofs.YtlhbgkaknfhlnaaGreat

/-
  Small functions of package parse and of what it calls: words, operators, places in a list of texts.
-/
namespace Go.Proofs.YtlhbgkaknfhlnaaGreat
open Go.RowKit Go.IntWalk Lx Pz
set_option linter.unusedVariables false

theorem eq_of_bs {s : ByteArray} {l : List UInt8} (h : bs s = l) : s = sB l := by rw [← h, sB_bs]
theorem ne_bs {s : ByteArray} {l : List UInt8} (h : ¬ bs s = l) : (s.toList == l) = false := by rw [toList_bs]; simpa using h

set_option maxRecDepth 100000 in
set_option maxHeartbeats 2000000 in
theorem called_any (s : ByteArray) (W : World) : Calls Tryz.prog 115 #[.string s] W fun e W' => e = .returned (.int .i64 (calO (bs s))) ∧ W' = W := by
  by_cases h0 : bs s = [97, 98, 115]
  · obtain rfl := eq_of_bs h0
    rw [show calO (bs (sB [97, 98, 115])) = 6 by decide]
    go_enter Tryz.func115, Tryz.ntmps115
    go_wp2
    go_ret
    exact ⟨rfl, rfl⟩
  by_cases h1 : bs s = [115, 103, 110]
  · obtain rfl := eq_of_bs h1
    rw [show calO (bs (sB [115, 103, 110])) = 7 by decide]
    go_enter Tryz.func115, Tryz.ntmps115
    go_wp2
    go_ret
    exact ⟨rfl, rfl⟩
  by_cases h2 : bs s = [109, 105, 110]
  · obtain rfl := eq_of_bs h2
    rw [show calO (bs (sB [109, 105, 110])) = 24 by decide]
    go_enter Tryz.func115, Tryz.ntmps115
    go_wp2
    go_ret
    exact ⟨rfl, rfl⟩
  by_cases h3 : bs s = [109, 97, 120]
  · obtain rfl := eq_of_bs h3
    rw [show calO (bs (sB [109, 97, 120])) = 25 by decide]
    go_enter Tryz.func115, Tryz.ntmps115
    go_wp2
    go_ret
    exact ⟨rfl, rfl⟩
  by_cases h4 : bs s = [99, 108, 97, 109, 112]
  · obtain rfl := eq_of_bs h4
    rw [show calO (bs (sB [99, 108, 97, 109, 112])) = 26 by decide]
    go_enter Tryz.func115, Tryz.ntmps115
    go_wp2
    go_ret
    exact ⟨rfl, rfl⟩
  by_cases h5 : bs s = [109, 101, 100]
  · obtain rfl := eq_of_bs h5
    rw [show calO (bs (sB [109, 101, 100])) = 27 by decide]
    go_enter Tryz.func115, Tryz.ntmps115
    go_wp2
    go_ret
    exact ⟨rfl, rfl⟩
  rw [show calO (bs s) = 0 by unfold calO; rw [if_neg h0, if_neg h1, if_neg h2, if_neg h3, if_neg h4, if_neg h5]]
  have k0 := ne_bs h0
  have k1 := ne_bs h1
  have k2 := ne_bs h2
  have k3 := ne_bs h3
  have k4 := ne_bs h4
  have k5 := ne_bs h5
  clear h0 h1 h2 h3 h4 h5
  go_enter Tryz.func115, Tryz.ntmps115
  go_wp2
  go_ret
  exact ⟨rfl, rfl⟩

set_option maxRecDepth 100000 in
set_option maxHeartbeats 2000000 in
theorem input_any (s : ByteArray) (W : World) : Calls Tryz.prog 116 #[.string s] W fun e W' => e = .returned (.int .i64 (inK (bs s))) ∧ W' = W := by
  by_cases h0 : bs s = [120]
  · obtain rfl := eq_of_bs h0
    rw [show inK (bs (sB [120])) = 0 by decide]
    go_enter Tryz.func116, Tryz.ntmps116
    go_wp2
    go_ret
    exact ⟨rfl, rfl⟩
  by_cases h1 : bs s = [121]
  · obtain rfl := eq_of_bs h1
    rw [show inK (bs (sB [121])) = 1 by decide]
    go_enter Tryz.func116, Tryz.ntmps116
    go_wp2
    go_ret
    exact ⟨rfl, rfl⟩
  by_cases h2 : bs s = [99]
  · obtain rfl := eq_of_bs h2
    rw [show inK (bs (sB [99])) = 2 by decide]
    go_enter Tryz.func116, Tryz.ntmps116
    go_wp2
    go_ret
    exact ⟨rfl, rfl⟩
  by_cases h3 : bs s = [108, 111]
  · obtain rfl := eq_of_bs h3
    rw [show inK (bs (sB [108, 111])) = 3 by decide]
    go_enter Tryz.func116, Tryz.ntmps116
    go_wp2
    go_ret
    exact ⟨rfl, rfl⟩
  by_cases h4 : bs s = [104, 105]
  · obtain rfl := eq_of_bs h4
    rw [show inK (bs (sB [104, 105])) = 4 by decide]
    go_enter Tryz.func116, Tryz.ntmps116
    go_wp2
    go_ret
    exact ⟨rfl, rfl⟩
  by_cases h5 : bs s = [109, 105, 100]
  · obtain rfl := eq_of_bs h5
    rw [show inK (bs (sB [109, 105, 100])) = 5 by decide]
    go_enter Tryz.func116, Tryz.ntmps116
    go_wp2
    go_ret
    exact ⟨rfl, rfl⟩
  rw [show inK (bs s) = -1 by unfold inK; rw [if_neg h0, if_neg h1, if_neg h2, if_neg h3, if_neg h4, if_neg h5]]
  have k0 := ne_bs h0
  have k1 := ne_bs h1
  have k2 := ne_bs h2
  have k3 := ne_bs h3
  have k4 := ne_bs h4
  have k5 := ne_bs h5
  clear h0 h1 h2 h3 h4 h5
  go_enter Tryz.func116, Tryz.ntmps116
  go_wp2
  go_ret
  exact ⟨rfl, rfl⟩

set_option maxRecDepth 100000 in
set_option maxHeartbeats 2000000 in
theorem reserved_any (s : ByteArray) (W : World) : Calls Tryz.prog 83 #[.string s] W fun e W' => e = .returned (.bool (resv (bs s))) ∧ W' = W := by
  by_cases h0 : bs s = [108, 101, 116]
  · obtain rfl := eq_of_bs h0
    rw [show resv (bs (sB [108, 101, 116])) = true by decide]
    go_enter Tryz.func83, Tryz.ntmps83
    go_wp2
    go_ret
    exact ⟨rfl, rfl⟩
  by_cases h1 : bs s = [112]
  · obtain rfl := eq_of_bs h1
    rw [show resv (bs (sB [112])) = true by decide]
    go_enter Tryz.func83, Tryz.ntmps83
    go_wp2
    go_ret
    exact ⟨rfl, rfl⟩
  by_cases h2 : bs s = [113]
  · obtain rfl := eq_of_bs h2
    rw [show resv (bs (sB [113])) = true by decide]
    go_enter Tryz.func83, Tryz.ntmps83
    go_wp2
    go_ret
    exact ⟨rfl, rfl⟩
  have k0 := ne_bs h0
  have k1 := ne_bs h1
  have k2 := ne_bs h2
  have hr : resv (bs s) = (calO (bs s) != 0 || decide (0 ≤ inK (bs s))) := by
    unfold resv
    rw [show (bs s == wLet) = false by simpa [wLet] using h0, show (bs s == wP) = false by simpa [wP] using h1, show (bs s == wQ) = false by simpa [wQ] using h2]
    rfl
  have HC := hide fun W => called_any s W
  have HI := hide fun W => input_any s W
  rw [hr]
  generalize calO (bs s) = c at *
  generalize inK (bs s) = i at *
  clear hr h0 h1 h2
  cases h : (c != 0) with
  | true =>
    rw [Bool.true_or]
    go_enter Tryz.func83, Tryz.ntmps83
    go_wp2_with fail
    refine (HC.out _).mono ?_
    rintro e W1 ⟨rfl, rfl⟩
    go_wp2_with fail
    go_ret
    exact ⟨rfl, rfl⟩
  | false =>
    rw [Bool.false_or]
    go_enter Tryz.func83, Tryz.ntmps83
    go_wp2_with fail
    refine (HC.out _).mono ?_
    rintro e W1 ⟨rfl, rfl⟩
    go_wp2_with fail
    refine (HI.out _).mono ?_
    rintro e W1 ⟨rfl, rfl⟩
    go_wp2_with fail
    go_ret
    exact ⟨rfl, rfl⟩

/-- How many parts an operator has; -1: it is none. -/
def arZ (op : Int) : Int :=
  if op = 1 ∨ op = 2 ∨ op = 3 then 0 else if 5 ≤ op ∧ op ≤ 7 then 1 else if 29 ≤ op ∧ op ≤ 33 then 1 else if 8 ≤ op ∧ op ≤ 25 then 2 else if 26 ≤ op ∧ op ≤ 28 then 3 else -1

def wthn (x a b : Int) : Bool := decide (a ≤ x) && decide (x ≤ b)
set_option maxHeartbeats 1000000 in
theorem awithin_any (x a b : Int) (W : World) : Calls Tryz.prog 92 #[.int .i64 x, .int .i64 a, .int .i64 b] W fun e W' => e = .returned (.bool (wthn x a b)) ∧ W' = W := by
  by_cases h : a ≤ x
  · rw [show wthn x a b = decide (x ≤ b) by simp [wthn, h]]
    go_enter Tryz.func92, Tryz.ntmps92
    go_wp2
    go_ret
    exact ⟨rfl, rfl⟩
  · rw [show wthn x a b = false by simp [wthn]; omega]
    go_enter Tryz.func92, Tryz.ntmps92
    go_wp2
    go_ret
    exact ⟨rfl, rfl⟩

theorem arZ_of {op : Int} (h1 : (op == 1) = false) (h2 : (op == 2) = false) (h3 : (op == 3) = false) : arZ op = if wthn op 5 7 then 1 else if wthn op 29 33 then 1 else if wthn op 8 25 then 2 else if wthn op 26 28 then 3 else -1 := by
  have e1 : ¬ op = 1 := by simpa using h1
  have e2 : ¬ op = 2 := by simpa using h2
  have e3 : ¬ op = 3 := by simpa using h3
  unfold arZ wthn
  simp [e1, e2, e3]
set_option maxHeartbeats 2000000 in
theorem arity_any (op : Int) (W : World) : Calls Tryz.prog 56 #[.int .i64 op] W fun e W' => e = .returned (.int .i64 (arZ op)) ∧ W' = W := by
  by_cases h : op = 1 ∨ op = 2 ∨ op = 3
  · rcases h with rfl | rfl | rfl <;>
    · rw [show arZ _ = 0 by decide]
      go_enter Tryz.func56, Tryz.ntmps56
      go_wp2
      go_ret
      exact ⟨rfl, rfl⟩
  · have h1 : (op == 1) = false := by simp; omega
    have h2 : (op == 2) = false := by simp; omega
    have h3 : (op == 3) = false := by simp; omega
    rw [arZ_of h1 h2 h3]
    clear h
    have H1 := hide fun W => awithin_any op 5 7 W
    have H2 := hide fun W => awithin_any op 29 33 W
    have H3 := hide fun W => awithin_any op 8 25 W
    have H4 := hide fun W => awithin_any op 26 28 W
    generalize wthn op 5 7 = b1 at *
    generalize wthn op 29 33 = b2 at *
    generalize wthn op 8 25 = b3 at *
    generalize wthn op 26 28 = b4 at *
    cases b1 with
    | true =>
      rw [if_pos rfl]
      go_enter Tryz.func56, Tryz.ntmps56
      go_wp2_with fail
      refine (H1.out _).mono ?_
      rintro e W1 ⟨rfl, rfl⟩
      go_wp2_with fail
      go_ret
      exact ⟨rfl, rfl⟩
    | false =>
      rw [if_neg (by decide)]
      cases b2 with
      | true =>
        rw [if_pos rfl]
        go_enter Tryz.func56, Tryz.ntmps56
        go_wp2_with fail
        refine (H1.out _).mono ?_
        rintro e W1 ⟨rfl, rfl⟩
        go_wp2_with fail
        refine (H2.out _).mono ?_
        rintro e W1 ⟨rfl, rfl⟩
        go_wp2_with fail
        go_ret
        exact ⟨rfl, rfl⟩
      | false =>
        rw [if_neg (by decide)]
        cases b3 with
        | true =>
          rw [if_pos rfl]
          go_enter Tryz.func56, Tryz.ntmps56
          go_wp2_with fail
          refine (H1.out _).mono ?_
          rintro e W1 ⟨rfl, rfl⟩
          go_wp2_with fail
          refine (H2.out _).mono ?_
          rintro e W1 ⟨rfl, rfl⟩
          go_wp2_with fail
          refine (H3.out _).mono ?_
          rintro e W1 ⟨rfl, rfl⟩
          go_wp2_with fail
          go_ret
          exact ⟨rfl, rfl⟩
        | false =>
          rw [if_neg (by decide)]
          cases b4 with
          | true =>
            rw [if_pos rfl]
            go_enter Tryz.func56, Tryz.ntmps56
            go_wp2_with fail
            refine (H1.out _).mono ?_
            rintro e W1 ⟨rfl, rfl⟩
            go_wp2_with fail
            refine (H2.out _).mono ?_
            rintro e W1 ⟨rfl, rfl⟩
            go_wp2_with fail
            refine (H3.out _).mono ?_
            rintro e W1 ⟨rfl, rfl⟩
            go_wp2_with fail
            refine (H4.out _).mono ?_
            rintro e W1 ⟨rfl, rfl⟩
            go_wp2_with fail
            go_ret
            exact ⟨rfl, rfl⟩
          | false =>
            rw [if_neg (by decide)]
            go_enter Tryz.func56, Tryz.ntmps56
            go_wp2_with fail
            refine (H1.out _).mono ?_
            rintro e W1 ⟨rfl, rfl⟩
            go_wp2_with fail
            refine (H2.out _).mono ?_
            rintro e W1 ⟨rfl, rfl⟩
            go_wp2_with fail
            refine (H3.out _).mono ?_
            rintro e W1 ⟨rfl, rfl⟩
            go_wp2_with fail
            refine (H4.out _).mono ?_
            rintro e W1 ⟨rfl, rfl⟩
            go_wp2_with fail
            go_ret
            exact ⟨rfl, rfl⟩

/-- Where a text stands in a list; -1. -/
def ixZ (L : List Txt) (s : Txt) : Int := if L.contains s then (pos L s : Int) else -1
theorem ixZ_yes {L : List Txt} {s : Txt} {i : Nat} (h : ∀ j, j < i → L.getD j [] ≠ s) (hi : i < L.length) (he : L.getD i [] = s) : ixZ L s = i := by
  have hm : L[i] = s := by rw [List.getD_eq_getElem?_getD, List.getElem?_eq_getElem hi] at he; simpa using he
  unfold ixZ
  rw [if_pos (by simp only [List.contains_iff_mem]; rw [← hm]; exact List.getElem_mem hi)]
  have : pos L s = i := by
    unfold pos
    rw [List.findIdx_eq hi]
    refine ⟨by simpa using hm, fun j hj => ?_⟩
    have := h j hj
    rw [List.getD_eq_getElem?_getD, List.getElem?_eq_getElem (by omega)] at this
    simpa using this
  rw [this]
theorem ixZ_no {L : List Txt} {s : Txt} (h : ∀ j, j < L.length → L.getD j [] ≠ s) : ixZ L s = -1 := by
  unfold ixZ
  rw [if_neg]
  intro hc
  simp only [List.contains_iff_mem] at hc
  obtain ⟨j, hj, he⟩ := List.getElem_of_mem hc
  exact h j hj (by rw [List.getD_eq_getElem?_getD, List.getElem?_eq_getElem hj]; simpa using he)
theorem ixZ_nonneg (L : List Txt) (s : Txt) : decide (0 ≤ ixZ L s) = L.contains s := by
  unfold ixZ
  cases h : L.contains s <;> simp

theorem all_ne {L : List Txt} {s : Txt} {k : Nat} (h : ∀ j, j < k → L.getD j [] ≠ s) (h' : ¬ L.getD k [] = s) : ∀ j, j < k + 1 → L.getD j [] ≠ s := by
  intro j hj
  rcases Nat.lt_succ_iff_lt_or_eq.1 hj with h1 | rfl
  · exact h j h1
  · exact h'

/-- The slice reads as these texts. -/
structure Tx (W : World) (a : Option Addr) (n cap : Nat) (L : List Txt) : Prop where
  len : L.length = n
  le : n ≤ cap
  max : cap ≤ maxLen
  cell : n = 0 ∨ ∃ b off, a = some ⟨b, off, none⟩ ∧ ∀ i, i < n → W.cell? ⟨b, off + i, none⟩ = some (.string (sB (L.getD i [])))
theorem Tx.of_owns {W : World} {base : Nat} {v : Value} {n : Nat} {L : List Txt} (h : W.ownsRow base 9 1 v n (tx64 L)) : ∃ a cap, v = .slice a n cap ∧ Tx W a n cap L := by
  have hl : L.length = n := by have := h.1; simpa using this
  have hcs := fun g hg => h.cells (g := g) hg
  rcases h.2 with ⟨rfl, rfl⟩ | ⟨g, cap, cur, rfl, hb, hg, hnc, hcm, hsz, htake⟩
  · exact ⟨none, 0, rfl, ⟨hl, Nat.le_refl _, Nat.zero_le _, .inl rfl⟩⟩
  · refine ⟨some ⟨g, 0, none⟩, cap, rfl, ⟨hl, hnc, hcm, .inr ⟨g, 0, rfl, fun i hi => ?_⟩⟩⟩
    have := hcs g rfl i (.string (sB (L.getD i []))) (by rw [List.getElem?_map, List.getD_eq_getElem?_getD, List.getElem?_eq_getElem (by omega)]; rfl)
    rwa [Addr.add_lit] at this

set_option maxRecDepth 100000 in
set_option maxHeartbeats 2000000 in
theorem index_any {W : World} {a : Option Addr} {n cap : Nat} {L : List Txt} (h : Tx W a n cap L) (s : ByteArray) :
    Calls Tryz.prog 117 #[.slice a n cap, .string s] W fun e W' => e = .returned (.int .i64 (ixZ L (bs s))) ∧ W' = W := by
  have HT := hide h
  have hn : n ≤ 9223372036854775807 := by have := h.le; have := h.max; unfold maxLen at *; omega
  have hl := hide h.len
  clear h
  go_enter Tryz.func117, Tryz.ntmps117
  go_wp2
  go_loop [5, 8] (fun _ i => ∃ k : Nat, k ≤ n ∧ i = .int .i64 k ∧ Hid (∀ j, j < k → L.getD j [] ≠ bs s)) (fun _ i => n - (intOf i).toNat)
  case atStart => exact ⟨0, Nat.zero_le _, rfl, hide (fun j hj => by omega)⟩
  case round =>
    obtain ⟨k, hk, rfl, HA⟩ := hrel
    by_cases hlt : k < n
    · obtain ⟨b, off, rfl, hc⟩ : ∃ b off, a = some ⟨b, off, none⟩ ∧ W.cell? ⟨b, off + k, none⟩ = some (.string (sB (L.getD k []))) := by
        rcases HT.out.cell with h0 | ⟨b, off, ha, hc⟩
        · omega
        · exact ⟨b, off, ha, hc k hlt⟩
      have hi0 : (0 : Int) ≤ k := by omega
      have hi1 : (k : Int) < n := by omega
      by_cases he : L.getD k [] = bs s
      · rw [he, sB_bs] at hc
        have he := hide he
        go_wp2
        go_ret
        exact ⟨ret_int (by rw [ixZ_yes HA.out (by rw [hl.out]; exact hlt) he.out]), rfl⟩
      · have hq : (s.toList == (sB (L.getD k [])).toList) = false := by
          rw [toList_bs, toList_bs]; simp only [beq_eq_false_iff_ne, ne_eq]; intro e; exact he e.symm
        have he := hide he
        generalize sB (L.getD k []) = u at hc hq
        go_wp2
        go_round
        case rel => exact ⟨k + 1, by omega, by go_num, hide (all_ne HA.out he.out)⟩
        case measure => simp [intOf]; omega
    · go_wp2
      go_ret
      exact ⟨ret_int (by rw [ixZ_no (fun j hj => HA.out j (by rw [hl.out] at hj; omega))]), rfl⟩

set_option maxRecDepth 100000 in
set_option maxHeartbeats 1000000 in
theorem contains_any {W : World} {a : Option Addr} {n cap : Nat} {L : List Txt} (h : Tx W a n cap L) (s : ByteArray) :
    Calls Tryz.prog 84 #[.slice a n cap, .string s] W fun e W' => e = .returned (.bool (L.contains (bs s))) ∧ W' = W := by
  have HI := hide (index_any h s)
  have hz := ixZ_nonneg L (bs s)
  generalize ixZ L (bs s) = z at *
  clear h
  rw [← hz]
  clear hz
  go_enter Tryz.func84, Tryz.ntmps84
  go_wp2_with fail
  refine HI.out.mono ?_
  rintro e W1 ⟨rfl, rfl⟩
  go_wp2_with fail
  go_ret
  exact ⟨rfl, rfl⟩

end Go.Proofs.YtlhbgkaknfhlnaaGreat
