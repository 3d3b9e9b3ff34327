/-
  A region that draws its order, whose last operation waits for all the others, and whose others are quiet: one walk of the others in the order of the text, and then the last one.
-/
import Derived.StillTail
import Derived.Lib.QuietBelow
import Derived.Test.YtihbhbeaihdgnaaMSpD
import Derived.LoopN
import Derived.Test.YtihbhbeaihdgnaaMSpB
import Derived.ArgAppend
import Derived.Laws.AppendOwnNone
import Derived.Lib.SliceRun
import Derived.Deep.RegionHeld3
import Derived.Deep.AppendLies
namespace Go.Proofs.Ytihbhbeaihdgnaa.Spn
open Go.RowKit Go.Sort Go
set_option linter.unusedVariables false

/-- Every operation waits only for operations that stand ahead of it. -/
def backB (ops : Array Oper) : Bool := (List.range ops.size).all fun j => ((ops[j]?).map fun o => o.after.all fun e => decide (e.on < j)).getD true
theorem backB_spec {ops : Array Oper} (h : backB ops = true) {j : Nat} {o : Oper} (ho : ops[j]? = some o) : ∀ e ∈ o.after, e.on < j := by
  intro e he
  have hj : j < ops.size := (Array.getElem?_eq_some_iff.1 ho).1
  have h1 := List.all_eq_true.1 h j (List.mem_range.2 hj)
  rw [ho] at h1
  simp only [Option.map_some, Option.getD_some] at h1
  simpa using Array.all_eq_true'.1 h1 e he
/-- Every guard stands among the first n. -/
def guardB (l : List Oper) : Bool := l.all fun o => match o.guard with | none => true | some (j, _) => decide (j < l.length)

theorem getD_in' {listed : Array Bool} {i : Nat} (hi : i < listed.size) (h : listed.getD i false ≠ true) : listed.getD i true = false := by
  simp [hi] at h ⊢; exact h

/-- Where something has not come up, something may come up. -/
theorem ready_ne {ops : Array Oper} {listed : Array Bool} (hb : backB ops = true) (hsz : listed.size = ops.size) : ∀ j, j < ops.size → listed.getD j true = false → Region.ready .any ops listed ≠ [] := by
  intro j
  induction j using Nat.strongRecOn with
  | _ j ih =>
    intro hj hun h0
    obtain ⟨o, ho⟩ : ∃ o, ops[j]? = some o := ⟨ops[j], by simp [hj]⟩
    by_cases hall : ∀ e ∈ o.after, Region.binds .any e = true → listed.getD e.on false = true
    · have : j ∈ Region.ready .any ops listed := mem_ready.2 ⟨hun, o, ho, hall⟩
      rw [h0] at this; cases this
    · simp only [Classical.not_forall] at hall
      obtain ⟨e, he, hbi, hne⟩ := hall
      have hlt := backB_spec hb ho e he
      exact ih e.on hlt (by omega) (getD_in' (by omega) hne) h0

theorem getD_push {listed : Array Bool} (k : Nat) : (listed.push false).getD k false = listed.getD k false := by
  rcases Nat.lt_trichotomy k listed.size with h | h | h
  · simp [Array.getElem?_push, Nat.ne_of_lt h]
  · subst h; simp
  · simp [Array.getElem?_push, Nat.ne_of_gt h]
theorem getD_push_lt {listed : Array Bool} {k : Nat} (b : Bool) (h : k < listed.size) : (listed.push false).getD k b = listed.getD k b := by
  simp [Array.getElem?_push, Nat.ne_of_lt h]

theorem set_push {x : Array Bool} {i : Nat} (hi : i < x.size) : (x.push false).setIfInBounds i true = (x.setIfInBounds i true).push false := by
  apply Array.ext_getElem?
  intro j
  rw [Array.getElem?_setIfInBounds, Array.getElem?_push, Array.getElem?_push, Array.getElem?_setIfInBounds, Array.size_push, Array.size_setIfInBounds]
  by_cases hij : i = j
  · subst hij
    rw [if_pos rfl, if_pos (by omega), if_neg (by omega), if_pos rfl, if_pos hi]
  · rw [if_neg hij, if_neg hij]

section
variable {l : List Oper} {o : Oper}

theorem ops_lt {i : Nat} (h : i < l.length) : (l ++ [o]).toArray[i]? = l.toArray[i]? := by simp [List.getElem?_append_left h]
theorem ops_last : (l ++ [o]).toArray[l.length]? = some o := by simp

theorem ready_lt {listed : Array Bool} (hsz : listed.size = l.length) {i : Nat} (hi : i < l.length) : i ∈ Region.ready .any (l ++ [o]).toArray (listed.push false) ↔ i ∈ Region.ready .any l.toArray listed := by
  rw [mem_ready, mem_ready, ops_lt hi, getD_push_lt true (by omega)]
  simp only [getD_push]

theorem wanted_same (hg : guardB l = true) {x : Oper} (hx : x ∈ l) (t : Array Value) : Region.wanted x (yielded (l ++ [o]).toArray t) = Region.wanted x (yielded l.toArray t) := by
  have h1 := List.all_eq_true.1 hg x hx
  unfold Region.wanted
  split
  · rfl
  · rename_i j want hj
    rw [hj] at h1
    simp only [decide_eq_true_eq] at h1
    unfold yielded
    rw [ops_lt h1]

theorem qOp_same {P : Program} {C : World → Prop} (hg : guardB l = true) {i : Nat} (hi : i < l.length) {K : Act → Prop} {a : Act} (h : qOp P l.toArray C i K a) : qOp P (l ++ [o]).toArray C i K a := by
  unfold qOp at *
  rw [ops_lt hi]
  have hx : l.toArray[i]? = some l[i] := by simp [hi]
  rw [hx] at h ⊢
  simp only at h ⊢
  rw [wanted_same hg (List.getElem_mem hi)]
  exact h

theorem all_listed {listed : Array Bool} (h : ∀ j, j < listed.size → listed.getD j true = true) (ops : Array Oper) : Region.ready .any ops listed = [] := by
  apply List.eq_nil_iff_forall_not_mem.2
  intro j hj
  obtain ⟨h1, -⟩ := mem_ready.1 hj
  rcases Nat.lt_or_ge j listed.size with h' | h'
  · rw [h j h'] at h1; cases h1
  · simp [Array.getElem?_eq_none h'] at h1

theorem wpAny_last {P : Program} {C : World → Prop} {Q : Exit → Act → World → Prop} (hog : o.guard = none) (hb0 : backB l.toArray = true) (hb : backB (l ++ [o]).toArray = true) (hg : guardB l = true)
    (hs : Region.sinkB .any (l ++ [o]).toArray l.length = true) (hc : Region.chainB .any (l ++ [o]).toArray l.length = true) :
    ∀ (fuel : Nat) (listed : Array Bool) (a : Act) (w : World), C w → listed.size = l.length → HeadInv .any (l ++ [o]).toArray l.length (listed.push false) →
      wpAnyQ P .any l.toArray C (fun a' => ∀ w', C w' → wpList P (l ++ [o]).toArray Q [o] a' w') fuel listed a →
      wpAny P .any (l ++ [o]).toArray Q (fuel + 1) (listed.push false) a w := by
  have hne : ∀ listed : Array Bool, listed.size = l.length → Region.ready .any (l ++ [o]).toArray (listed.push false) ≠ [] := fun listed hsz =>
    ready_ne hb (by simp [hsz]) l.length (by simp) (by simp [← hsz])
  have hend : ∀ (fuel : Nat) (listed : Array Bool) (a : Act) (w : World), listed.size = l.length → (∀ j, j < l.length → listed.getD j true = true) → Q .normal a w → wpAny P .any (l ++ [o]).toArray Q fuel ((listed.push false).setIfInBounds l.length true) a w := by
    intro fuel listed a w hsz hall hq
    have h0 : Region.ready .any (l ++ [o]).toArray ((listed.push false).setIfInBounds l.length true) = [] := by
      refine all_listed (fun j hj => ?_) _
      simp at hj
      by_cases hjl : j = l.length
      · subst hjl; simp [hsz]
      · rw [getD_set_ne true (Ne.symm hjl), getD_push_lt true (by omega)]
        exact hall j (by omega)
    cases fuel with
    | zero => exact ⟨h0, hq⟩
    | succ fuel => exact ⟨fun _ => hq, fun i hi => by rw [h0] at hi; cases hi⟩
  have hlast : ∀ (fuel : Nat) (listed : Array Bool) (a : Act) (w : World), listed.size = l.length → (∀ j, j < l.length → listed.getD j true = true) → wpList P (l ++ [o]).toArray Q [o] a w →
      wpOp P (l ++ [o]).toArray Q l.length (wpAny P .any (l ++ [o]).toArray Q fuel ((listed.push false).setIfInBounds l.length true)) a w := by
    intro fuel listed a w hsz hall hq
    unfold wpOp
    rw [ops_last]
    simp only [wpList, Region.wanted, hog, if_true] at hq ⊢
    exact hq.imp (Oper.wp_mono (fun a' w' h' => hend fuel listed a' w' hsz hall h')) id
  have hlist : ∀ listed : Array Bool, listed.size = l.length → Region.ready .any l.toArray listed = [] → ∀ j, j < l.length → listed.getD j true = true := fun listed hsz h0 j hj => by
    cases hv : listed.getD j true with
    | true => rfl
    | false => exact absurd h0 (ready_ne hb0 (by simpa using hsz) j (by simpa using hj) hv)
  have hle : ∀ (listed : Array Bool) (i : Nat), i ∈ Region.ready .any (l ++ [o]).toArray (listed.push false) → i < l.length ∨ i = l.length := fun listed i hi => by
    obtain ⟨-, oi, hoi, -⟩ := mem_ready.1 hi
    have := (Array.getElem?_eq_some_iff.1 hoi).1
    simp at this
    omega
  intro fuel
  induction fuel with
  | zero =>
    intro listed a w hw hsz inv h
    refine ⟨fun h0 => absurd h0 (hne listed hsz), fun i hi => ?_⟩
    have hall := hlist listed hsz h.1
    rcases hle listed i hi with hil | rfl
    · rw [ready_lt hsz hil, h.1] at hi; cases hi
    · exact hlast 0 listed a w hsz hall (h.2 w hw)
  | succ fuel ih =>
    intro listed a w hw hsz inv h
    refine ⟨fun h0 => absurd h0 (hne listed hsz), fun i hi => ?_⟩
    rcases hle listed i hi with hil | rfl
    · have hi0 := (ready_lt hsz hil).1 hi
      refine wpOp_of_qOp hw (fun a' w' hw' hk => ?_) (qOp_same hg hil (h.2 i hi0))
      have e := set_push (x := listed) (i := i) (by omega)
      have inv' := inv.set hi hil
      rw [e] at inv' ⊢
      exact ih (listed.setIfInBounds i true) a' w' hw' (by simpa using hsz) inv' hk
    · have hall : ∀ j, j < l.length → listed.getD j true = true := fun j hj => by
        cases hv : listed.getD j true with
        | true => rfl
        | false => exact absurd hi (tail_waits hs hc (by simp) inv (l.length - j) j rfl hj (by rw [getD_push_lt true (by omega)]; exact hv) l.length (Nat.le_refl _))
      exact hlast (fuel + 1) listed a w hsz hall (h.1 (all_listed (fun j hj => hall j (by omega)) _) w hw)

theorem wp_region_quiet_last {P : Program} {C : World → Prop} {id : Nat} {Q : Exit → Act → World → Prop} {a : Act} {w : World} (hm : P.follows .mixedOrders = true) (hB : Region.lexB .any l.toArray = true)
    (hog : o.guard = none) (hb0 : backB l.toArray = true) (hb : backB (l ++ [o]).toArray = true) (hg : guardB l = true)
    (hs : Region.sinkB .any (l ++ [o]).toArray l.length = true) (hc : Region.chainB .any (l ++ [o]).toArray l.length = true) (hC : C { w with drawn := w.drawn + 1 })
    (h : wpQuiet P l.toArray C (fun a' => ∀ w', C w' → wpList P (l ++ [o]).toArray Q [o] a' w') l a) : (Code.region id (l ++ [o]).toArray true).wp P Q a w := by
  simp only [Region.lexB, Bool.and_eq_true] at hB
  refine wp_region_any hm ?_
  have e : Array.replicate (l ++ [o]).toArray.size false = (Array.replicate l.length false).push false := by
    rw [← Array.replicate_succ]; simp
  rw [e, show (l ++ [o]).toArray.size = l.length + 1 by simp]
  refine wpAny_last hog hb0 hb hg hs hc l.length _ a _ hC (by simp) ?_ ?_
  · exact ⟨by simp, fun j oj _ hl => (by rw [← Array.replicate_succ, getD_replicate_false] at hl; cases hl), fun t _ ht => getD_in (by simpa using ht) (by rw [← Array.replicate_succ]; exact getD_replicate_false _ _)⟩
  · have := wpAnyQ_lex (P := P) (C := C) (md := .any) hB.1 l 0 (Array.replicate l.length false) a (by simp) (by simpa using hB.2) h
    simpa using this

theorem wp_region_quiet_last_lit {P : Program} {id : Nat} {Q : Exit → Act → World → Prop} {a : Act} {w : World} {full : List Oper} (hf : full = l ++ [o]) (hm : P.follows .mixedOrders = true) (hB : Region.lexB .any l.toArray = true)
    (hog : o.guard = none) (hb0 : backB l.toArray = true) (hb : backB (l ++ [o]).toArray = true) (hg : guardB l = true)
    (hs : Region.sinkB .any (l ++ [o]).toArray l.length = true) (hc : Region.chainB .any (l ++ [o]).toArray l.length = true)
    (h : wpQuiet P l.toArray (fun w' => ∃ p : Regrown, w' = grow (redrawn w p.d) p.os) (fun a' => ∀ w', (∃ p : Regrown, w' = grow (redrawn w p.d) p.os) → wpList P (l ++ [o]).toArray Q [o] a' w') l a) : (Code.region id full.toArray true).wp P Q a w := by
  subst hf
  exact wp_region_quiet_last hm hB hog hb0 hb hg hs hc ⟨⟨w.drawn + 1, #[]⟩, by rw [grow_empty]; rfl⟩ h
end

end Go.Proofs.Ytihbhbeaihdgnaa.Spn

/-
  The closure that asks an operator, and the corners.
-/
namespace Go.Proofs.Ytihbhbeaihdgnaa.Spn
open Go.RowKit Go.IntWalk Go.Sort
set_option linter.unusedVariables false

abbrev ptr (b : Nat) : Value := .pointer (some ⟨b, 0, none⟩)

/-- What the closure captured lies in three blocks. -/
structure Cap (w : World) (b1 b2 b3 : Nat) (op k s : Int) : Prop where
  o : HasC w b1 3 #[.int .i64 op]
  k : HasC w b2 3 #[.int .i64 k]
  s : HasC w b3 3 #[.int .i64 s]
theorem Cap.later {w w' : World} {b1 b2 b3 : Nat} {op k s : Int} (h : Cap w b1 b2 b3 op k s) (hb : Below w.heap.size w w') : Cap w' b1 b2 b3 op k s := ⟨h.o.below hb, h.k.below hb, h.s.below hb⟩

theorem ask_any (op k s : Int) (b1 b2 b3 : Nat) (a : Option Addr) (n cap : Nat) (xs : List Int) (w : World) (h : Ints w a n cap xs) (hc : Cap w b1 b2 b3 op k s) :
    Calls Try.prog 67 #[.slice a n cap, ptr b1, ptr b2, ptr b3] w fun e w' => e = .returned (.tuple #[.int .i64 (valZ op k s xs).1, .int .i64 (valZ op k s xs).2]) ∧ Below w.heap.size w w' := by
  have c1 := hc.o.cell 0 rfl
  have c2 := hc.k.cell 0 rfl
  have c3 := hc.s.cell 0 rfl
  have HV := hide (value_any op k s a n cap xs w h)
  obtain ⟨⟨x, e⟩, hZ⟩ : ∃ Z, valZ op k s xs = Z := ⟨_, rfl⟩
  rw [hZ] at HV ⊢
  clear hZ h hc
  go_enter Try.func67, Try.ntmps67
  go_wp2_with fail
  refine HV.out.mono ?_
  rintro e w2 ⟨rfl, hb⟩
  go_wp2_with fail
  go_ret2
  exact ⟨rfl, hb⟩

/-- The memory of 'corners'. -/
structure Cn (w0 w : World) (a b c d x y : Int) (b1 b2 b3 : Nat) (op k s : Int) : Prop where
  a : HasC w w0.heap.size 73 #[.int .i64 a, .int .i64 b]
  b : HasC w (w0.heap.size + 1) 73 #[.int .i64 c, .int .i64 d]
  r : HasC w (w0.heap.size + 1 + 1) 73 #[.int .i64 0, .int .i64 0]
  q : HasC w (w0.heap.size + 1 + 1 + 1) 73 #[.int .i64 x, .int .i64 y]
  cap : Cap w b1 b2 b3 op k s
  lt : b1 < w0.heap.size ∧ b2 < w0.heap.size ∧ b3 < w0.heap.size
  bel : Below w0.heap.size w0 w

theorem Cn.later {w0 w w' : World} {a b c d x y : Int} {b1 b2 b3 : Nat} {op k s : Int} (h : Cn w0 w a b c d x y b1 b2 b3 op k s) (hb : Below w.heap.size w w') : Cn w0 w' a b c d x y b1 b2 b3 op k s :=
  ⟨h.a.below hb, h.b.below hb, h.r.below hb, h.q.below hb, h.cap.later hb, h.lt, h.bel.trans (hb.mono h.bel.size)⟩

theorem Cn.start {w : World} {a b c d x y : Int} {b1 b2 b3 : Nat} {op k s : Int} (h : Cap w b1 b2 b3 op k s) : Cn w ((((w.alloc (cs a b)).alloc (cs c d)).alloc (cs 0 0)).alloc (cs x y)) a b c d x y b1 b2 b3 op k s := by
  obtain ⟨h1, h2, h3, h4, hB⟩ := box4 (w := w) (a := a) (b := b) (c := c) (d := d) (e := 0) (f := 0) (x := x) (y := y) (Below.refl _ _)
  exact ⟨h1, h2, h3, h4, h.later hB, ⟨h.o.lt, h.k.lt, h.s.lt⟩, hB⟩

theorem Cn.put {w0 w : World} {a b c d x y : Int} {b1 b2 b3 : Nat} {op k s : Int} (h : Cn w0 w a b c d x y b1 b2 b3 op k s) (x' y' : Int) :
    Cn w0 ((w.setCell ⟨w0.heap.size + 1 + 1 + 1, 0, none⟩ (.int .i64 x')).setCell ⟨w0.heap.size + 1 + 1 + 1, 1, none⟩ (.int .i64 y')) a b c d x' y' b1 b2 b3 op k s := by
  obtain ⟨l1, l2, l3⟩ := h.lt
  have o := fun {n : Nat} {t : TypeId} {cs : Array Value} (hn : n ≠ w0.heap.size + 1 + 1 + 1) (hh : HasC w n t cs) => (hh.other (p := ⟨w0.heap.size + 1 + 1 + 1, 0, none⟩) hn (.int .i64 x')).other (p := ⟨w0.heap.size + 1 + 1 + 1, 1, none⟩) hn (.int .i64 y')
  refine ⟨o (by omega) h.a, o (by omega) h.b, o (by omega) h.r, ?_, ⟨o (by omega) h.cap.o, o (by omega) h.cap.k, o (by omega) h.cap.s⟩, h.lt, ?_⟩
  · exact (h.q.set 0 (.int .i64 x')).set 1 (.int .i64 y')
  · exact (h.bel.setCell (p := ⟨w0.heap.size + 1 + 1 + 1, 0, none⟩) (by simp; omega) _).setCell (p := ⟨w0.heap.size + 1 + 1 + 1, 1, none⟩) (by simp; omega) _

/-- One of two ends. -/
def pk (i : Nat) (x y : Int) : Int := if i = 0 then x else y

theorem idx_any (x y : Int) (i : Nat) (hi : i < 2) (w : World) : (Instr.index 117 (.agg #[.int .i64 x, .int .i64 y]) (.int .i64 i)).run Try.prog w = .ok (.int .i64 (pk i x y)) w := by
  rcases (show i = 0 ∨ i = 1 by omega) with rfl | rfl <;> simp [Instr.index, go_sem, pk]

/-- The corner of number n: what is made of it, and the hull of those ahead of it. -/
def cv (f : Int → Int → Int × Int) (a b c d : Int) (n : Nat) : Int × Int := f (pk (n / 2) a b) (pk (n % 2) c d)
def cLo (f : Int → Int → Int × Int) (a b c d : Int) : Nat → Int
  | 0 => 9223372036854775807
  | n + 1 => min (cLo f a b c d n) (cv f a b c d n).1
def cHi (f : Int → Int → Int × Int) (a b c d : Int) : Nat → Int
  | 0 => -9223372036854775808
  | n + 1 => max (cHi f a b c d n) (cv f a b c d n).1
def cOk (f : Int → Int → Int × Int) (a b c d : Int) (n : Nat) : Prop := ∀ m, m < n → (cv f a b c d m).2 = 0
theorem cOk_succ {f : Int → Int → Int × Int} {a b c d : Int} {n : Nat} (h : cOk f a b c d n) (h1 : (cv f a b c d n).2 = 0) : cOk f a b c d (n + 1) := by
  intro m hm
  by_cases e : m = n
  · subst e; exact h1
  · exact h m (by omega)

/-- What is answered of four corners. -/
def cornZ (f : Int → Int → Int × Int) (a b c d : Int) : (Int × Int) × Int :=
  if (cv f a b c d 0).2 ≠ 0 then ((0, 0), (cv f a b c d 0).2) else if (cv f a b c d 1).2 ≠ 0 then ((0, 0), (cv f a b c d 1).2) else if (cv f a b c d 2).2 ≠ 0 then ((0, 0), (cv f a b c d 2).2) else if (cv f a b c d 3).2 ≠ 0 then ((0, 0), (cv f a b c d 3).2) else
  ((cLo f a b c d 4, cHi f a b c d 4), 0)
theorem cornZ_bad {f : Int → Int → Int × Int} {a b c d : Int} {n : Nat} (h : cOk f a b c d n) (hn : n < 4) (he : (cv f a b c d n).2 ≠ 0) : cornZ f a b c d = ((0, 0), (cv f a b c d n).2) := by
  unfold cornZ
  rcases (show n = 0 ∨ n = 1 ∨ n = 2 ∨ n = 3 by omega) with rfl | rfl | rfl | rfl
  · rw [if_pos he]
  · rw [if_neg (by simpa using h 0 (by omega)), if_pos he]
  · rw [if_neg (by simpa using h 0 (by omega)), if_neg (by simpa using h 1 (by omega)), if_pos he]
  · rw [if_neg (by simpa using h 0 (by omega)), if_neg (by simpa using h 1 (by omega)), if_neg (by simpa using h 2 (by omega)), if_pos he]
theorem cornZ_ok {f : Int → Int → Int × Int} {a b c d : Int} (h : cOk f a b c d 4) : cornZ f a b c d = ((cLo f a b c d 4, cHi f a b c d 4), 0) := by
  unfold cornZ
  rw [if_neg (by simpa using h 0 (by omega)), if_neg (by simpa using h 1 (by omega)), if_neg (by simpa using h 2 (by omega)), if_neg (by simpa using h 3 (by omega))]

def cornV (f : Int → Int → Int × Int) (a b c d : Int) : Value := .tuple #[.agg #[.int .i64 (cornZ f a b c d).1.1, .int .i64 (cornZ f a b c d).1.2], .int .i64 (cornZ f a b c d).2]

set_option maxRecDepth 100000 in
set_option maxHeartbeats 4000000 in
theorem corners_any (op k s a b c d : Int) (b1 b2 b3 : Nat) (w : World) (hc : Cap w b1 b2 b3 op k s) (f : Int → Int → Int × Int) (hf : ∀ u v, valZ op k s [u, v] = f u v) :
    Calls Try.prog 71 #[.agg #[.int .i64 a, .int .i64 b], .agg #[.int .i64 c, .int .i64 d], .func (.func 67) #[] #[ptr b1, ptr b2, ptr b3]] w fun e w' =>
      e = .returned (cornV f a b c d) ∧ Below w.heap.size w w' := by
  have HC0 := hide (Cn.start (a := a) (b := b) (c := c) (d := d) (x := 9223372036854775807) (y := -9223372036854775808) hc)
  have HF := hide hf
  clear hc hf
  go_enter Try.func71, Try.ntmps71
  go_wp2_with fail
  go_loopw [21] (fun i wr => ∃ n : Nat, n ≤ 2 ∧ i = .int .i64 n ∧ cOk f a b c d (2 * n) ∧ Cn w wr a b c d (cLo f a b c d (2 * n)) (cHi f a b c d (2 * n)) b1 b2 b3 op k s) (fun i _ => 2 - (intOf i).toNat)
  case atStart => exact ⟨0, by omega, rfl, (fun m hm => by omega), HC0.out⟩
  case round =>
    obtain ⟨n, hn, rfl, hok, hcn⟩ := hrel
    have HOK := hide hok
    have HCN := hide hcn
    clear hok hcn
    obtain ⟨q1, q2, -, -⟩ := facts2 HCN.out.a
    obtain ⟨r1, r2, -, -⟩ := facts2 HCN.out.b
    by_cases hlt : n < 2
    · have hix := idx_any a b n hlt
      have hd : decide ((n : Int) < 2) = true := by simp; omega
      go_wp2_with fail
      go_loopw [29] (fun i wr => ∃ m : Nat, m ≤ 2 ∧ i = .int .i64 m ∧ cOk f a b c d (2 * n + m) ∧ Cn w wr a b c d (cLo f a b c d (2 * n + m)) (cHi f a b c d (2 * n + m)) b1 b2 b3 op k s) (fun i _ => 2 - (intOf i).toNat)
      case atStart => exact ⟨0, by omega, rfl, HOK.out, HCN.out⟩
      case round =>
        obtain ⟨m, hm, rfl, hok', hcn'⟩ := hrel
        have HOK2 := hide hok'
        have HCN2 := hide hcn'
        clear hok' hcn'
        by_cases hlt' : m < 2
        · have hix' := idx_any c d m hlt'
          have hcv : cv f a b c d (2 * n + m) = f (pk n a b) (pk m c d) := by
            unfold cv
            rw [show (2 * n + m) / 2 = n by omega, show (2 * n + m) % 2 = m by omega]
          have HCV := hide hcv
          clear hcv
          rename_i wr
          have CA := ask_any op k s b1 b2 b3 _ _ _ _ _ (lit2 wr 3 (pk n a b) (pk m c d)) (HCN2.out.cap.later (bel1 _ _))
          rw [HF.out] at CA
          obtain ⟨⟨z, e⟩, hZ⟩ : ∃ Z, f (pk n a b) (pk m c d) = Z := ⟨_, rfl⟩
          rw [hZ] at CA HCV
          clear hZ
          have HCA := hide CA
          clear CA
          go_wp2_with fail
          refine HCA.out.mono ?_
          rintro e' w2 ⟨rfl, hb2⟩
          have HC2 := hide (HCN2.out.later (bel (bel1 _ _) hb2))
          clear hb2 HCA HCN2 HCN q1 q2 r1 r2
          obtain ⟨s1, s2, s3, s4⟩ := facts2 HC2.out.r
          by_cases he : e = 0
          · subst he
            obtain ⟨x, hx⟩ : ∃ x, cLo f a b c d (2 * n + m) = x := ⟨_, rfl⟩
            obtain ⟨y, hy⟩ : ∃ y, cHi f a b c d (2 * n + m) = y := ⟨_, rfl⟩
            rw [hx, hy] at HC2
            have HX := hide hx
            have HY := hide hy
            clear hx hy
            obtain ⟨t1, t2, t3, t4⟩ := facts2 HC2.out.q
            go_wp2_with fail
            have u1 := cell_regrown t1
            have u2 := cell_regrown t2
            refine wp_region_quiet_last_lit (hf := (List.dropLast_concat_getLast (by simp)).symm) mixed (by kernel_rfl) rfl (by kernel_rfl) (by kernel_rfl) (by kernel_rfl) (by kernel_rfl) (by kernel_rfl) ?_
            simp only [List.dropLast_cons_cons, List.dropLast_singleton, List.getLast_cons_cons, List.getLast_singleton, -Int.reduceNeg]
            repeat (go_big_quiet_step ((first | (go_at_call 68; exact Calls.regrown_of (alone_any _ _)) | (go_at_call 85; exact Calls.regrown_of (join_any _ _ _ _ _)))))
            refine wpQuiet_nil ?_
            intro _ hw'
            obtain ⟨pq, hw''⟩ := hw'
            subst hw''
            have HC3 := hide (HC2.out.later (below_regrown w2 pq.d pq.os))
            clear HC2 t1 t2 t3 t4 s1 s2 s3 s4 u1 u2
            generalize grow (redrawn w2 pq.d) pq.os = G at *
            obtain ⟨t1, t2, t3, t4⟩ := facts2 HC3.out.q
            obtain ⟨x', hx'⟩ : ∃ x', min x z = x' := ⟨_, rfl⟩
            obtain ⟨y', hy'⟩ : ∃ y', max y z = y' := ⟨_, rfl⟩
            rw [hx', hy']
            have HX' := hide hx'
            have HY' := hide hy'
            clear hx' hy'
            go_wp2_with fail
            go_roundw
            case rel =>
              refine ⟨m + 1, by omega, by go_num, cOk_succ (n := 2 * n + m) HOK2.out (by rw [HCV.out]), ?_⟩
              have h := HC3.out.put x' y'
              rw [show cLo f a b c d (2 * n + (m + 1)) = x' by
                show min (cLo f a b c d (2 * n + m)) (cv f a b c d (2 * n + m)).1 = x'
                rw [HX.out, HCV.out, HX'.out], show cHi f a b c d (2 * n + (m + 1)) = y' by
                show max (cHi f a b c d (2 * n + m)) (cv f a b c d (2 * n + m)).1 = y'
                rw [HY.out, HCV.out, HY'.out]]
              exact h
            case measure => simp [intOf]; omega
          · have he' : (e != 0) = true := by simp [he]
            have hv : cornV f a b c d = .tuple #[.agg #[.int .i64 0, .int .i64 0], .int .i64 e] := by
              unfold cornV
              rw [cornZ_bad HOK2.out (by omega) (by rw [HCV.out]; exact he), HCV.out]
            have HV := hide hv
            clear hv he
            go_wp2_with fail
            obtain ⟨c0, c1, hB2⟩ := stored2 HC2.out.r HC2.out.bel (by omega) 0 0
            exact bodyPost_ret (v := .tuple #[.agg #[.int .i64 0, .int .i64 0], .int .i64 e]) (by simp [results, Try.results71, go_sem, c0, c1]) rfl ⟨by rw [HV.out], hB2⟩
        · obtain rfl : m = 2 := by omega
          go_wp2_with fail
          go_roundw
          case rel => exact ⟨n + 1, by omega, by go_num, HOK2.out, HCN2.out⟩
          case measure => simp [intOf]; omega
    · obtain rfl : n = 2 := by omega
      have hv : cornV f a b c d = .tuple #[.agg #[.int .i64 (cLo f a b c d 4), .int .i64 (cHi f a b c d 4)], .int .i64 0] := by
        unfold cornV
        rw [cornZ_ok HOK.out]
      obtain ⟨x, hx⟩ : ∃ x, cLo f a b c d 4 = x := ⟨_, rfl⟩
      obtain ⟨y, hy⟩ : ∃ y, cHi f a b c d 4 = y := ⟨_, rfl⟩
      rw [show 2 * 2 = 4 from rfl, hx, hy] at HCN
      rw [hx, hy] at hv
      have HV := hide hv
      clear hx hy hv
      obtain ⟨t1, t2, t3, t4⟩ := facts2 HCN.out.q
      obtain ⟨s1, s2, s3, s4⟩ := facts2 HCN.out.r
      go_wp2_with fail
      obtain ⟨c0, c1, hB2⟩ := stored2 HCN.out.r HCN.out.bel (by omega) x y
      exact bodyPost_ret (v := .tuple #[.agg #[.int .i64 x, .int .i64 y], .int .i64 0]) (by simp [results, Try.results71, go_sem, c0, c1]) rfl ⟨by rw [HV.out], hB2⟩

end Go.Proofs.Ytihbhbeaihdgnaa.Spn

/-
  Laws on memory: an append to a list that the call owns; a list of numbers in memory of its own.
-/
namespace Go.Proofs.Ytihbhbeaihdgnaa.Spn
open Go.RowKit
set_option linter.unusedVariables false

theorem info3 : (Try.prog.info? 3).map (fun i => (i.zero, i.size, i.bytes)) = some (some (.int .i64 0), 1, 8) := by kernel_rfl

abbrev i64s (xs : List Int) : List Value := xs.map (Value.int .i64)

theorem info_parts {P : Program} {e : TypeId} {z : Value} {s b : Nat} (h : (P.info? e).map (fun i => (i.zero, i.size, i.bytes)) = some (some z, s, b)) :
    ∃ i, P.info? e = some i ∧ i.zero = some z ∧ i.size = s ∧ i.bytes = b := by
  cases hi : P.info? e with
  | none => rw [hi] at h; cases h
  | some i => rw [hi] at h; simp at h; exact ⟨i, rfl, h.1, h.2.1, h.2.2⟩

theorem wpList_append_kept {P : Program} (w : World) {ops : Array Oper} {rest : List Oper} {o : Oper} {a : Act} {Q : Exit → Act → World → Prop}
    (hg : o.guard = none) (s x : Operand) (t : TypeId) (hop : o.op = Op.call { callee := Callee.builtin Builtin.append, args := #[s, x], argTypes := #[t, t] })
    (base : Nat) (e : TypeId) (i : TypeInfo) (z : Value) (bytes : Nat) (h1 : P.underlying t = some (.slice e)) (h2 : P.info? e = some i) (h3 : i.zero = some z) (h4 : i.size = 1) (h5 : i.bytes = bytes) (h6 : z.cells.size = 1)
    (v : Value) (n : Nat) (xs : List Value) (hs : a.eval s = v) (hown : w.ownsRow base e 1 v n xs) (ao : Option Addr) (m c : Nat) (news : List Value) (hx : a.eval x = .slice ao m c) (hn : news.length = m * 1)
    (hnone : ao = none → m = 0 ∧ c = 0) (hc : ∀ ad, ao = some ad → ∀ j u, news[j]? = some u → w.cell? (ad.add j) = some u) (h1c : ∀ u ∈ news, u.oneCell' = true)
    (b1 : n + m ≤ maxLen) (b2 : (n + m) * bytes ≤ 140737488355328) (hbase : base ≤ w.heap.size)
    (hK : ∀ v' w', w'.ownsRow base e 1 v' (n + m) (xs ++ news) → ((∃ g cap, v = .slice (some ⟨g, 0, none⟩) n cap ∧ v' = .slice (some ⟨g, 0, none⟩) (n + m) cap ∧ w.grownBy w' (some g)) ∨ (w.grownBy w' none ∧ ∀ g, v'.ownBlock = some g → w.heap.size ≤ g)) → wpList P ops Q rest (a.put o.dst v') w') :
    wpList P ops Q (o :: rest) a w := by
  have hlen : xs.length = n := by simpa using hown.1
  cases ao with
  | none =>
    obtain ⟨rfl, rfl⟩ := hnone rfl
    have hnews : news = [] := List.eq_nil_of_length_eq_zero (by simpa using hn)
    subst hnews
    refine wpList_append_own_none hg s x t hop base e i 1 h1 h2 v n xs hs hown hx (hK v w (by simpa using hown) ?_)
    rcases hown.2 with ⟨rfl, _⟩ | ⟨g, cap, cur, rfl, _⟩
    · exact .inr ⟨World.grownBy.refl _ _, fun g hg => by simp [Value.ownBlock] at hg⟩
    · exact .inl ⟨g, cap, rfl, by simp, World.grownBy.refl _ _⟩
  | some ad =>
    have hcs := fun g hg => hown.cells (g := g) hg
    rcases hown.2 with ⟨rfl, rfl⟩ | ⟨g, cap, cur, rfl, hb, hh, hnc, hcm, hsz, htk⟩
    · have hxs : xs = [] := List.eq_nil_of_length_eq_zero hlen
      subst hxs
      by_cases hm : m = 0
      · subst hm
        have hnews : news = [] := List.eq_nil_of_length_eq_zero (by simpa using hn)
        subst hnews
        refine wpList_append_own _ hg s x t hop base e i z 1 bytes h1 h2 h3 h4 h5 h6 (by decide) _ 0 [] hs hown ad 0 c [] hx rfl (hc ad rfl) h1c b1 b2 hbase ?_
        intro v' w' ho hgr hiff
        have hv : v' = .slice none 0 0 := hiff.2 ⟨rfl, rfl⟩
        subst hv
        exact hK _ _ ho (.inr ⟨hgr, fun g hg => by simp [Value.ownBlock] at hg⟩)
      · refine wpList_append_grows w hg s x t hop e i z 1 bytes h1 h2 h3 h4 h5 h6 (by decide) none 0 0 [] hs (fun _ => ⟨rfl, rfl⟩) rfl (fun b hb => by cases hb) ad m c news hx hn (hc ad rfl) h1c (by omega) b1 b2 ?_
        intro v' w' ho hgr
        refine hK v' w' ⟨ho.1, ?_⟩ (.inr ⟨hgr, fun g hg => (ho.lt g hg).1⟩)
        rcases ho.2 with h | ⟨g, cap, cur, hv, hb, r⟩
        · exact .inl h
        · exact .inr ⟨g, cap, cur, hv, by omega, r⟩
    · by_cases hroom : n + m ≤ cap
      · refine wpList_append_fits w hg s x t hop base e i 1 h1 h2 h4 g n cap xs hs hown ad m c news hx hn (hc ad rfl) h1c hroom ?_
        intro w' ho hgr
        exact hK _ w' ho (.inl ⟨g, cap, rfl, rfl, hgr⟩)
      · refine wpList_append_grows w hg s x t hop e i z 1 bytes h1 h2 h3 h4 h5 h6 (by decide) (some ⟨g, 0, none⟩) n cap xs hs (fun h => by cases h) hown.1 (fun b hb => by cases hb; exact hcs g rfl) ad m c news hx hn (hc ad rfl) h1c (by omega) b1 b2 ?_
        intro v' w' ho hgr
        refine hK v' w' ⟨ho.1, ?_⟩ (.inr ⟨hgr, fun g hg => (ho.lt g hg).1⟩)
        rcases ho.2 with h | ⟨g, cap, cur, hv, hb, r⟩
        · exact .inl h
        · exact .inr ⟨g, cap, cur, hv, by omega, r⟩

theorem Ints.of_owns {w : World} {base : Nat} {v : Value} {n : Nat} {xs : List Int} (h : w.ownsRow base 3 1 v n (i64s xs)) :
    ∃ a cap, v = .slice a n cap ∧ Ints w a n cap xs ∧ (∀ x, a = some x → base ≤ x.block ∧ x.block < w.heap.size) := by
  have hl : xs.length = n := by simpa using h.1
  have hlt := h.lt
  have hcs := fun g hg => h.cells (g := g) hg
  rcases h.2 with ⟨rfl, rfl⟩ | ⟨g, cap, cur, rfl, hb, hg, hnc, hcm, hsz, htake⟩
  · exact ⟨none, 0, rfl, ⟨hl, Nat.le_refl _, Nat.zero_le _, fun _ => rfl, .inl rfl⟩, fun x hx => by cases hx⟩
  · refine ⟨some ⟨g, 0, none⟩, cap, rfl, ⟨hl, hnc, hcm, (fun h => by cases h), .inr ⟨g, 0, rfl, fun i hi => ?_⟩⟩, fun x hx => by cases hx; exact hlt g rfl⟩
    have := hcs g rfl i (.int .i64 (xs.getD i 0)) (by simp [List.getD, hl, hi])
    rw [Addr.add_lit] at this
    exact this

theorem Ints.news {w : World} {a : Option Addr} {n cap : Nat} {xs : List Int} (h : Ints w a n cap xs) : ∀ ad, a = some ad → ∀ j u, (i64s xs)[j]? = some u → w.cell? (ad.add j) = some u := by
  intro ad ha j u hu
  have hj : j < n := by
    have := (List.getElem?_eq_some_iff.1 hu).1
    simpa [h.len] using this
  obtain ⟨b, off, ha', _, hc⟩ := h.at (by omega)
  rw [ha] at ha'
  cases ha'
  rw [Addr.add_lit, hc j hj]
  have hl := h.len
  simp only [i64s, List.getElem?_map] at hu
  rw [List.getElem?_eq_getElem (by omega)] at hu
  simp only [Option.map_some, Option.some.injEq] at hu
  rw [← hu]
  simp [List.getD, hl, hj]

theorem Ints.none {w : World} {n c : Nat} {xs : List Int} (h : Ints w none n c xs) : n = 0 ∧ c = 0 ∧ xs = [] := by
  have h1 := h.nil rfl
  have h2 := h.le
  have h3 := h.len
  exact ⟨by omega, h1, List.eq_nil_of_length_eq_zero (by omega)⟩

end Go.Proofs.Ytihbhbeaihdgnaa.Spn

/-
  A slice of spans in memory.
-/
namespace Go.Proofs.Ytihbhbeaihdgnaa.Spn
open Go.RowKit Go.IntWalk Go.Sort
set_option linter.unusedVariables false

/-- The slice (a, n, cap) reads as the spans L. -/
structure Spans (w : World) (a : Option Addr) (n cap : Nat) (L : List (Int × Int)) : Prop where
  len : L.length = n
  le : n ≤ cap
  max : cap ≤ maxLen
  nil : a = none → cap = 0
  cell : n = 0 ∨ ∃ b off, a = some ⟨b, off, none⟩ ∧ ∀ i, i < n → w.cell? ⟨b, off + i * 2, none⟩ = some (.int .i64 (L.getD i (0, 0)).1) ∧ w.cell? ⟨b, off + i * 2 + 1, none⟩ = some (.int .i64 (L.getD i (0, 0)).2)

theorem Spans.at {w : World} {a : Option Addr} {n cap : Nat} {L : List (Int × Int)} (h : Spans w a n cap L) (hn : n ≠ 0) :
    ∃ b off, a = some ⟨b, off, none⟩ ∧ b < w.heap.size ∧ ∀ i, i < n → w.cell? ⟨b, off + i * 2, none⟩ = some (.int .i64 (L.getD i (0, 0)).1) ∧ w.cell? ⟨b, off + i * 2 + 1, none⟩ = some (.int .i64 (L.getD i (0, 0)).2) := by
  rcases h.cell with h0 | ⟨b, off, ha, hc⟩
  · exact absurd h0 hn
  · exact ⟨b, off, ha, World.block_lt_of_cell? w _ (hc 0 (by omega)).1, hc⟩

theorem Spans.later {w w' : World} {a : Option Addr} {n cap : Nat} {L : List (Int × Int)} (h : Spans w a n cap L) (hb : Below w.heap.size w w') : Spans w' a n cap L := by
  refine ⟨h.len, h.le, h.max, h.nil, ?_⟩
  by_cases hn : n = 0
  · exact .inl hn
  · obtain ⟨b, off, ha, hlt, hc⟩ := h.at hn
    exact .inr ⟨b, off, ha, fun i hi => ⟨(hb.cell (p := ⟨b, off + i * 2, none⟩) hlt).trans (hc i hi).1, (hb.cell (p := ⟨b, off + i * 2 + 1, none⟩) hlt).trans (hc i hi).2⟩⟩

/-- Two spans written out. -/
theorem slit2 (w : World) (a b c d : Int) : Spans (w.alloc (.cells #[.int .i64 a, .int .i64 b, .int .i64 c, .int .i64 d] 73)) (some ⟨w.heap.size, 0, none⟩) 2 2 [(a, b), (c, d)] := by
  refine ⟨rfl, Nat.le_refl _, by decide, (fun h => by cases h), .inr ⟨_, _, rfl, fun i hi => ?_⟩⟩
  rcases (show i = 0 ∨ i = 1 by omega) with rfl | rfl <;> simp

end Go.Proofs.Ytihbhbeaihdgnaa.Spn

/-
  Two lists that a call makes side by side: an append to each, in a region that draws its order.
-/
namespace Go.Proofs.Ytihbhbeaihdgnaa.Spn
open Go.RowKit Go.IntWalk Go.Sort
set_option linter.unusedVariables false

/-- The two lists: each in memory of its own. -/
structure En (w wr : World) (v1 v2 : Value) (n1 n2 : Nat) (xs ys : List Int) : Prop where
  a : wr.ownsRow w.heap.size 3 1 v1 n1 (i64s xs)
  b : wr.ownsRow w.heap.size 3 1 v2 n2 (i64s ys)
  ap : ∀ g, v1.ownBlock = some g → v2.ownBlock ≠ some g
  bel : Below w.heap.size w wr

theorem En.alloc {w W : World} {v1 v2 : Value} {n1 n2 : Nat} {xs ys : List Int} (h : En w W v1 v2 n1 n2 xs ys) (o : Obj) : En w (W.alloc o) v1 v2 n1 n2 xs ys :=
  ⟨h.a.alloc o, h.b.alloc o, h.ap, h.bel.alloc h.bel.size o⟩
theorem En.drew {w W : World} {v1 v2 : Value} {n1 n2 : Nat} {xs ys : List Int} (h : En w W v1 v2 n1 n2 xs ys) : En w W.drew v1 v2 n1 n2 xs ys :=
  ⟨h.a.drew, h.b.drew, h.ap, h.bel.trans ⟨rfl, rfl, rfl, Nat.le_refl _, fun _ _ => rfl⟩⟩
theorem En.swap {w W : World} {v1 v2 : Value} {n1 n2 : Nat} {xs ys : List Int} (h : En w W v1 v2 n1 n2 xs ys) : En w W v2 v1 n2 n1 ys xs :=
  ⟨h.b, h.a, fun g hg hg' => h.ap g hg' hg, h.bel⟩

theorem En.grow {w W w' : World} {v1 v2 : Value} {n1 n2 : Nat} {xs ys : List Int} (h : En w W v1 v2 n1 n2 xs ys) {g cap m : Nat} {zs : List Int}
    (hown : w'.ownsRow w.heap.size 3 1 (.slice (some ⟨g, 0, none⟩) m cap) m (i64s zs)) (hgrow : W.grownBy w' v1.ownBlock) (hat : v1.ownBlock = some g ∨ g = W.heap.size) :
    En w w' (.slice (some ⟨g, 0, none⟩) m cap) v2 m n2 zs ys := by
  have l2 := h.b.lt
  refine ⟨hown, h.b.kept hgrow ?_, ?_, h.bel.grown hgrow h.bel.size (fun k hk => (h.a.lt k hk).1)⟩
  · cases hv : v2.ownBlock with
    | none => exact .inl rfl
    | some q => exact .inr fun e => h.ap q e.symm hv
  · intro g' hg' hv
    have e : g = g' := by simpa [Value.ownBlock] using hg'
    subst e
    rcases hat with hat | hat
    · exact h.ap g hat hv
    · have := (l2 g hv).2
      omega

/-- An append to the first of the two, at a step of a region that draws. -/
theorem step_a {w W : World} {v1 v2 : Value} {n1 n2 : Nat} {xs ys : List Int} {ops : Array Oper} {o : Oper} {a : Act} {K : Act → World → Prop} {Q : Exit → Act → World → Prop} {E : Prop}
    (hgd : o.guard = none) (s x : Operand) (ho : o.op = .call { callee := .builtin .append, args := #[s, x], argTypes := #[27, 27] })
    (hs : a.eval s = v1) (hen : En w W v1 v2 n1 n2 xs ys) (ad : Addr) (z : Int) (hx : a.eval x = .slice (some ad) 1 1) (hc : W.cell? ad = some (.int .i64 z)) (h3 : n1 ≤ 140737488355327 / 8)
    (h : ∀ g cap w', En w w' (.slice (some ⟨g, 0, none⟩) (n1 + 1) cap) v2 (n1 + 1) n2 (xs ++ [z]) ys → (∀ p : Addr, p.block < W.heap.size → v1.ownBlock ≠ some p.block → w'.cell? p = W.cell? p) → W.heap.size ≤ w'.heap.size → K (a.put o.dst (.slice (some ⟨g, 0, none⟩) (n1 + 1) cap)) w') :
    if Region.wanted o (yielded ops a.tmps) = true then Oper.wp Try.prog o a W K Q else E := by
  obtain ⟨i0, hi0, hz0, hz1, hz2⟩ := info_parts info3
  refine step_append_lies W hgd s x 27 ho w.heap.size 3 i0 _ 1 8 Try.underlying27 hi0 hz0 hz1 hz2 rfl (by omega) v1 n1 (i64s xs) hs hen.a ad 1 1 [.int .i64 z] hx rfl ?_ (by simp [Value.oneCell']) (by omega) (by unfold maxLen; omega) (by omega) hen.bel.size W.heap.size rfl ?_
  · intro j u hu
    cases j with
    | zero =>
      simp at hu
      subst hu
      have : ad.add 0 = ad := by cases ad; simp [Addr.add]
      rw [this]
      exact hc
    | succ j => simp at hu
  · intro g cap w' hown hgrow hat hlt
    have hown' : w'.ownsRow w.heap.size 3 1 (.slice (some ⟨g, 0, none⟩) (n1 + 1) cap) (n1 + 1) (i64s (xs ++ [z])) := by simpa [i64s] using hown
    exact h g cap w' (hen.grow hown' hgrow hat) (fun p hp hne => hgrow.cell_far p hp (fun e => hne e.symm)) hgrow.size

/-- .. to the second. -/
theorem step_b {w W : World} {v1 v2 : Value} {n1 n2 : Nat} {xs ys : List Int} {ops : Array Oper} {o : Oper} {a : Act} {K : Act → World → Prop} {Q : Exit → Act → World → Prop} {E : Prop}
    (hgd : o.guard = none) (s x : Operand) (ho : o.op = .call { callee := .builtin .append, args := #[s, x], argTypes := #[27, 27] })
    (hs : a.eval s = v2) (hen : En w W v1 v2 n1 n2 xs ys) (ad : Addr) (z : Int) (hx : a.eval x = .slice (some ad) 1 1) (hc : W.cell? ad = some (.int .i64 z)) (h3 : n2 ≤ 140737488355327 / 8)
    (h : ∀ g cap w', En w w' v1 (.slice (some ⟨g, 0, none⟩) (n2 + 1) cap) n1 (n2 + 1) xs (ys ++ [z]) → (∀ p : Addr, p.block < W.heap.size → v2.ownBlock ≠ some p.block → w'.cell? p = W.cell? p) → W.heap.size ≤ w'.heap.size → K (a.put o.dst (.slice (some ⟨g, 0, none⟩) (n2 + 1) cap)) w') :
    if Region.wanted o (yielded ops a.tmps) = true then Oper.wp Try.prog o a W K Q else E :=
  step_a hgd s x ho hs hen.swap ad z hx hc h3 fun g cap w' he hk hl => h g cap w' he.swap hk hl

end Go.Proofs.Ytihbhbeaihdgnaa.Spn
