/-
  The reader of package parse: what an expression's function comes to; a variable beside the reader.
-/
import Derived.Test.YtamekjocchekoaaRx
namespace Go.Proofs.Ytamekjocchekoaa
open Go.RowKit Go.IntWalk Lx Pz
set_option linter.unusedVariables false

theorem Kp.store_new {S : List TypeId} {W V : World} (h : Kp S W V) {p : Addr} (hp : W.heap.size ≤ p.block) (u : Value) : Kp S W (V.setCell p u) :=
  ⟨by have := h.size; simp [World.setCell]; omega, fun k cs t fr hk ht => (Below.heap_setCell V p u k (by have := (Array.getElem?_eq_some_iff.1 hk).1; omega)).trans (h.block k cs t fr hk ht)⟩
theorem Rd.kp {w W W' : World} {b : Nat} {m : Mm} {T : List Tok} {NM : List Txt} {BS : List Int} {NS : List Nd} (h : Rd w W b m T NM BS NS) {t : TypeId} (hk : Kp [t] W W') (ht : t ≠ 53 ∧ t ≠ 49 ∧ t ≠ 9 ∧ t ≠ 3 ∧ t ≠ 37) (hb : Below w.heap.size w W') : Rd w W' b m T NM BS NS := by
  obtain ⟨h1, h2, h3, h4, h5⟩ := ht
  exact ⟨h.blk.kp hk (by simpa using Ne.symm h1), h.base, h.toks.kp hk (by simpa using Ne.symm h2), owns_kp h.names hk (by simpa using Ne.symm h3), owns_kp h.binds hk (by simpa using Ne.symm h4), owns_kp h.nodes hk (by simpa using Ne.symm h5), h.wf, hb⟩

/-- A variable of the call's own beside the reader. -/
structure Pl (w W V : World) (b : Nat) (T : List Tok) (NM : List Txt) (BS : List Int) (NS : List Nd) (q : Nat) (ty : TypeId) (cs : Array Value) : Prop where
  rd : ∃ m, Rd w V b m T NM BS NS
  kp : Kp SX W V
  va : HasC V q ty cs
  q0 : W.heap.size ≤ q
  w0 : w.heap.size ≤ W.heap.size
theorem Pl.store {w W V : World} {b : Nat} {T : List Tok} {NM : List Txt} {BS : List Int} {NS : List Nd} {q : Nat} {ty : TypeId} {cs : Array Value} (h : Pl w W V b T NM BS NS q ty cs) (ht : ty ≠ 53 ∧ ty ≠ 49 ∧ ty ≠ 9 ∧ ty ≠ 3 ∧ ty ≠ 37) (i : Nat) (u : Value) :
    Pl w W (V.setCell ⟨q, i, none⟩ u) b T NM BS NS q ty (cs.setIfInBounds i u) := by
  obtain ⟨m, hm⟩ := h.rd
  exact ⟨⟨m, hm.kp (Kp.set h.va (by simp) i u) ht (hm.old.setCell (by have := h.q0; have := h.w0; show w.heap.size ≤ q; omega) u)⟩, h.kp.store_new h.q0 u, h.va.set i u, h.q0, h.w0⟩
theorem Pl.step {w W V V' : World} {b : Nat} {T T' : List Tok} {NM : List Txt} {BS : List Int} {NS NS' : List Nd} {q : Nat} {ty : TypeId} {cs : Array Value} (h : Pl w W V b T NM BS NS q ty cs) (ht : ty ≠ 53 ∧ ty ≠ 49 ∧ ty ≠ 9 ∧ ty ≠ 3 ∧ ty ≠ 37)
    (hr : ∃ m, Rd w V' b m T' NM BS NS') (hk : Kp SX V V') : Pl w W V' b T' NM BS NS' q ty cs :=
  ⟨hr, h.kp.trans hk, h.va.kp hk (by obtain ⟨h1, h2, h3, h4, h5⟩ := ht; simp [h1, h5]), h.q0, h.w0⟩
theorem Pl.later {w W V V' : World} {b : Nat} {T : List Tok} {NM : List Txt} {BS : List Int} {NS : List Nd} {q : Nat} {ty : TypeId} {cs : Array Value} (h : Pl w W V b T NM BS NS q ty cs) (hb : Below V.heap.size V V') : Pl w W V' b T NM BS NS q ty cs := by
  obtain ⟨m, hm⟩ := h.rd
  exact ⟨⟨m, hm.later hb⟩, h.kp.trans (Kp.of_below SX hb), h.va.below hb, h.q0, h.w0⟩
theorem Pl.begin {w W : World} {b : Nat} {m : Mm} {T : List Tok} {NM : List Txt} {BS : List Int} {NS : List Nd} (h : Rd w W b m T NM BS NS) (ty : TypeId) (cs : Array Value) : Pl w W (W.alloc (.cells cs ty)) b T NM BS NS W.heap.size ty cs :=
  ⟨⟨m, h.later (bel1 _ _)⟩, Kp.of_below SX (bel1 _ _), HasC.new _ _ _, Nat.le_refl _, h.old.size⟩

/-- What an expression's function comes to. -/
def Ok (w W : World) (b : Nat) (T : List Tok) (NM : List Txt) (BS : List Int) (NS : List Nd) (res : Option (E × List Tk)) (e : Ending) (W' : World) : Prop :=
  (res = none ∧ e = pan ∧ Below w.heap.size w W') ∨
  (∃ ex P T', res = some (ex, T'.map ab) ∧ T = P ++ T' ∧ e = .returned (.int .i64 ((NS.length + ex.size : Nat) - 1 : Int)) ∧ (∃ m', Rd w W' b m' T' NM BS (NS ++ ex.flat NS.length)) ∧ Kp SX W W')

theorem ret_size {n : Nat} (e : E) (h : e.size = 1) : Ending.returned (.int .i64 n) = .returned (.int .i64 ((n + e.size : Nat) - 1 : Int)) := ret_int (by omega)

theorem hd_cons {T : List Tok} {x : Tk} (h : (T.map ab).head? = some x) : ∃ t T', T = t :: T' ∧ ab t = x := by
  cases T with
  | nil => simp at h
  | cons t T => simp at h; exact ⟨t, T, rfl, h⟩

end Go.Proofs.Ytamekjocchekoaa
