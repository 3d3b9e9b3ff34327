/-
  ref.making.call: the arguments, cut at the commas.
-/
import Derived.Test.YtamekjocchekoaaNb
import Derived.Test.YtamekjocchekoaaGtA
import Derived.Test.YtamekjocchekoaaRegIF
import Derived.Test.YtamekjocchekoaaLate
import Derived.Test.YtamekjocchekoaaCond
namespace Go.Proofs.Ytamekjocchekoaa
open Go.RowKit Go.IntWalk Lx Pz
set_option linter.unusedVariables false
set_option linter.unusedSimpArgs false

theorem wp_region_flags2 {P : Program} {ops : Array Oper} {Q : Exit → Act → World → Prop} {id : Nat} {a : Act} {w : World} (hm : P.follows .mixedOrders = true)
    (hord : ∀ (i : Nat) (o : Oper), ops[i]? = some o → ∀ e ∈ o.after, Region.binds .any e = true → e.on < i) (I : (Nat → Bool) → Act → World → Prop)
    (h0 : I (fun _ => false) a { w with drawn := w.drawn + 1 })
    (hs : ∀ d a w i o, I d a w → d i = false → ops[i]? = some o → (∀ e ∈ o.after, Region.binds .any e = true → d e.on = true) → ∀ Q' : Exit → Act → World → Prop, (∀ a w, I (fun j => j == i || d j) a w → Q' .normal a w) → wpList P ops Q' [o] a w)
    (he : ∀ d a w, I d a w → (∀ i, i < ops.size → d i = true) → Q .normal a w) : (Code.region id ops true).wp P Q a w := by
  refine wp_region_inv hm (fun listed a w => listed.size = ops.size ∧ I (fun j => listed.getD j false) a w) ⟨by simp, ?_⟩ ?_ ?_
  · have : (fun j => (Array.replicate ops.size false).getD j false) = fun _ => false := by
      funext j
      simp only [Array.getD_eq_getD_getElem?, Array.getElem?_replicate]
      split <;> rfl
    rw [this]
    exact h0
  · rintro listed a w i ⟨hsz, hI⟩ hi
    obtain ⟨h1, h2, o, ho, h3⟩ := ready_mem hi
    refine wpOp_list ho fun Q' hk _ => ?_
    refine hs _ a w i o hI ?_ ho h3 Q' fun a w hI' => hk a w ⟨by simp [hsz], ?_⟩
    · have hlt : i < listed.size := by omega
      simpa [Array.getD_eq_getD_getElem?, hlt] using h2
    · have : (fun j => (listed.setIfInBounds i true).getD j false) = fun j => j == i || listed.getD j false := by
        funext j
        simp only [Array.getD_eq_getD_getElem?, Array.getElem?_setIfInBounds]
        by_cases hj : i = j
        · subst hj
          have hlt : i < listed.size := by omega
          simp [hlt]
        · have : (j == i) = false := by simpa using fun e => hj e.symm
          rw [if_neg hj, this]
          simp
      rw [this]
      exact hI'
  · rintro listed a w ⟨hsz, hI⟩ hr
    refine he _ a w hI ?_
    intro i
    induction i using Nat.strongRecOn with
    | _ i ih =>
      intro hi
      cases hd : listed.getD i false with
      | true => rfl
      | false =>
        exfalso
        have hm' : i ∈ Region.ready .any ops listed := by
          unfold Region.ready
          rw [List.mem_filter, List.mem_range]
          refine ⟨hi, ?_⟩
          have hlt : i < listed.size := by omega
          have e1 : listed.getD i true = false := by
            simpa [Array.getD_eq_getD_getElem?, hlt] using hd
          rw [e1]
          obtain ⟨o, ho⟩ : ∃ o, ops[i]? = some o := ⟨ops[i], Array.getElem?_eq_getElem hi⟩
          rw [ho]
          simp only [Option.map_some, Option.getD_some, Bool.not_false, Bool.true_and, Array.all_eq_true]
          intro k hk
          cases hbd : Region.binds .any o.after[k] with
          | false => simp
          | true =>
            have hlt2 := hord i o ho o.after[k] (Array.getElem_mem hk) hbd
            have := ih o.after[k].on hlt2 (by omega)
            rw [this]
            simp
        rw [hr] at hm'
        cases hm'

theorem ord_of2 {ops : Array Oper} (h : (ops.toList.zipIdx.all fun x => x.1.after.all fun e => !Region.binds .any e || decide (e.on < x.2)) = true) : ∀ (i : Nat) (o : Oper), ops[i]? = some o → ∀ e ∈ o.after, Region.binds .any e = true → e.on < i := by
  intro i o ho e he hb
  rw [List.all_eq_true] at h
  have h1 := h (o, i) (by
    rw [List.mem_zipIdx_iff_getElem?]
    simpa using ho)
  rw [Array.all_eq_true] at h1
  obtain ⟨k, hk, rfl⟩ := Array.mem_iff_getElem.1 he
  have := h1 k hk
  simp only [hb] at this
  simpa using this
theorem or_t2 {a b : Bool} (h : b = true) : (a || b) = true := by rw [h]; simp
theorem wp_region_flags3 {P : Program} {ops : Array Oper} {Q : Exit → Act → World → Prop} {id : Nat} {a : Act} {w : World} (hm : P.follows .mixedOrders = true)
    (hord : ∀ (i : Nat) (o : Oper), ops[i]? = some o → ∀ e ∈ o.after, Region.binds .any e = true → e.on < i) (I : Act → (Nat → Bool) → Act → World → Prop)
    (h0 : I a (fun _ => false) a { w with drawn := w.drawn + 1 })
    (hs : ∀ d A w i o, I a d A w → d i = false → ops[i]? = some o → (∀ e ∈ o.after, Region.binds .any e = true → d e.on = true) → ∀ Q' : Exit → Act → World → Prop, (∀ A w, I a (fun j => j == i || d j) A w → Q' .normal A w) → wpList P ops Q' [o] A w)
    (he : ∀ d A w, I a d A w → (∀ i, i < ops.size → d i = true) → Q .normal A w) : (Code.region id ops true).wp P Q a w := wp_region_flags2 hm hord (I a) h0 hs he
theorem mixedD : Try.prog.follows .mixedOrders = true := by kernel_rfl

theorem F2.len {α β : Type} {R : α → β → Prop} {l : List α} {m : List β} (h : F2 R l m) : l.length = m.length := by
  induction h with
  | nil => rfl
  | cons _ _ ih => simp [ih]
theorem F2.get {α β : Type} {R : α → β → Prop} {l : List α} {m : List β} (h : F2 R l m) : ∀ (i : Nat) (a : α), l[i]? = some a → ∃ b, R a b := by
  induction h with
  | nil => intro i a hi; simp at hi
  | @cons x y l m hr _ ih =>
    intro i a hi
    cases i with
    | zero => simp at hi; exact ⟨y, hi ▸ hr⟩
    | succ i => exact ih i a (by simpa using hi)
theorem F2.snoc {α β : Type} {R : α → β → Prop} {l : List α} {m : List β} (h : F2 R l m) {a : α} {b : β} (hr : R a b) : F2 R (l ++ [a]) (m ++ [b]) := by
  induction h with
  | nil => exact .cons hr .nil
  | cons h1 _ ih => exact .cons h1 ih

/-- The cuts as the document writes them. -/
def czL (L : List Tk) : List Int := (-1 : Int) :: ((cmp 0 L ++ [L.length]).map fun (x : Nat) => (x : Int))
def cmk (L : List Tk) (k : Nat) : List Nat := (((outs 0 0 L).take k).filter isC).map (·.1)
theorem cmk_succ {L : List Tk} {k : Nat} (hk : k < (ozl L).length) : cmk L (k + 1) = cmk L k ++ (if (outG L k).2 = .comma then [(outG L k).1] else []) := by
  have hk' : k < (outs 0 0 L).length := by unfold ozl at hk; simpa using hk
  have e : outG L k = (outs 0 0 L)[k] := by unfold outG; rw [List.getD_eq_getElem?_getD, List.getElem?_eq_getElem hk']; rfl
  unfold cmk
  rw [List.take_succ_eq_append_getElem hk', List.filter_append, List.map_append, ← e]
  congr 1
  by_cases h : (outG L k).2 = .comma
  · rw [if_pos h]
    simp [List.filter, isC, h]
  · rw [if_neg h]
    simp [List.filter, isC, h]
theorem cmk_all (L : List Tk) : cmk L (ozl L).length = cmp 0 L := by
  unfold cmk cmp
  rw [List.take_of_length_le (by unfold ozl; simp)]
theorem cmk_len (L : List Tk) (k : Nat) : (cmk L k).length ≤ k := by
  unfold cmk
  rw [List.length_map]
  refine Nat.le_trans (List.length_filter_le _ _) ?_
  rw [List.length_take]
  omega
theorem czL_snoc (L : List Tk) : czL L = ((-1 : Int) :: (cmp 0 L).map fun (x : Nat) => (x : Int)) ++ [(L.length : Int)] := by unfold czL; simp
theorem czL_len (L : List Tk) : (czL L).length = (cmp 0 L).length + 2 := by unfold czL; simp
/-- Where the k-th piece begins and ends. -/
def stC (L : List Tk) (k : Nat) : Nat := if k = 0 then 0 else (cmp 0 L).getD (k - 1) 0 + 1
def enC (L : List Tk) (k : Nat) : Nat := (cmp 0 L ++ [L.length]).getD k 0
theorem cz_at {L : List Tk} {k : Nat} (hk : k ≤ (cmp 0 L).length) : (czL L)[k]? = some ((stC L k : Int) - 1) ∧ (czL L)[k + 1]? = some ((enC L k : Nat) : Int) := by
  constructor
  · unfold czL stC
    cases k with
    | zero => simp
    | succ k =>
      have hk' : k < (cmp 0 L).length := by omega
      rw [List.getElem?_cons_succ, List.getElem?_map, List.getElem?_append_left hk', List.getElem?_eq_getElem hk']
      simp [List.getD, hk']
      try omega
  · unfold czL enC
    rw [List.getElem?_cons_succ, List.getElem?_map, List.getD_eq_getElem?_getD]
    rw [List.getElem?_eq_getElem (by simp; omega)]
    rfl
theorem piece_at {L : List Tk} {k : Nat} (hk : k ≤ (cmp 0 L).length) : (sg 0 (cmp 0 L) L)[k]? = some ((L.take (enC L k)).drop (stC L k)) ∧ stC L k ≤ enC L k ∧ enC L k ≤ L.length ∧ (k < (cmp 0 L).length → stC L (k + 1) = enC L k + 1) := by
  have hs := cmp_sorted 0 L
  have ha : ∀ q ∈ cmp 0 L, 0 ≤ q ∧ q - 0 < L.length := fun q hq => by
    obtain ⟨h1, h2⟩ := cmp_at hq
    exact ⟨h1, (List.getElem?_eq_some_iff.1 h2).1⟩
  have h := sg_get (cmp 0 L) 0 L k hk hs ha
  have e1 : (cmp 0 L ++ [0 + L.length]).getD k 0 - 0 = enC L k := by unfold enC; simp
  have e2 : (if k = 0 then 0 else (cmp 0 L).getD (k - 1) 0 + 1 - 0) = stC L k := by unfold stC; split <;> omega
  rw [e1, e2] at h
  have hle : enC L k ≤ L.length := by
    unfold enC
    by_cases hk2 : k < (cmp 0 L).length
    · rw [List.getD_eq_getElem?_getD, List.getElem?_append_left hk2, List.getElem?_eq_getElem hk2]
      have := (ha (cmp 0 L)[k] (List.getElem_mem hk2)).2
      simp only [Option.getD_some]
      omega
    · have : k = (cmp 0 L).length := by omega
      subst this
      simp
  refine ⟨h, ?_, hle, ?_⟩
  · unfold stC
    split
    · omega
    · rename_i h0
      obtain ⟨j, rfl⟩ : ∃ j, k = j + 1 := ⟨k - 1, by omega⟩
      have hj : j < (cmp 0 L).length := by omega
      rw [Nat.add_sub_cancel, List.getD_eq_getElem?_getD, List.getElem?_eq_getElem hj]
      simp only [Option.getD_some]
      unfold enC
      by_cases hk2 : j + 1 < (cmp 0 L).length
      · rw [List.getD_eq_getElem?_getD, List.getElem?_append_left hk2, List.getElem?_eq_getElem hk2]
        simp only [Option.getD_some]
        exact List.pairwise_iff_getElem.1 hs j (j + 1) hj hk2 (by omega)
      · have : j + 1 = (cmp 0 L).length := by omega
        rw [List.getD_eq_getElem?_getD, this, List.getElem?_append_right (Nat.le_refl _), Nat.sub_self]
        simp only [List.getElem?_cons_zero, Option.getD_some]
        have := (ha (cmp 0 L)[j] (List.getElem_mem hj)).2
        omega
  · intro hk2
    unfold stC enC
    rw [if_neg (by omega), Nat.add_sub_cancel, List.getD_eq_getElem?_getD, List.getD_eq_getElem?_getD, List.getElem?_append_left hk2]

/-- All that the loops read. -/
structure Ca (w W V : World) (b : Nat) (nv bv dv : Value) (root : Int) (NM : List Txt) (BS : List Int) (NS : List Nd) (a : Option Addr) (n cap : Nat) (T : List Tok) (v : Value) (C : List Int) : Prop where
  ma' : Mk w V b nv bv dv root NM BS NS
  tz : Tz V a n cap T
  row : V.ownsRow W.heap.size 3 1 v C.length (in64 C)
  kp : Kp SM W V
theorem Ca.later {w W V V' : World} {b : Nat} {nv bv dv : Value} {root : Int} {NM : List Txt} {BS : List Int} {NS : List Nd} {a : Option Addr} {n cap : Nat} {T : List Tok} {v : Value} {C : List Int} (h : Ca w W V b nv bv dv root NM BS NS a n cap T v C) (hb : Below V.heap.size V V') : Ca w W V' b nv bv dv root NM BS NS a n cap T v C :=
  ⟨h.ma'.later hb, h.tz.later hb, owns_kp h.row (Kp.of_below [] hb) (by simp), h.kp.trans (Kp.of_below SM hb)⟩

theorem calO_ar {s : Txt} (h : calO s ≠ 0) : arZ (calO s) = (ari (calO s) : Int) ∧ 1 ≤ ari (calO s) ∧ ari (calO s) ≤ 3 := by
  unfold calO at h ⊢
  repeat' split
  all_goals first | decide | (exfalso; simp_all)

/-- The state of the second loop. -/
structure Cb (w W V : World) (b : Nat) (nv bv : Value) (root : Int) (NM : List Txt) (BS : List Int) (NS : List Nd) (a : Option Addr) (n cap : Nat) (T : List Tok) (v : Value) (C : List Int) (base p : Nat) (es : List E) : Prop where
  ma' : ∃ dv, Mk w V b nv bv dv root NM BS (NS ++ flL es NS.length)
  tz : Tz V a n cap T
  row : V.ownsRow base 3 1 v C.length (in64 C)
  ar : HasC V p 82 #[.int .i64 (p1 es NS.length), .int .i64 (p2 es NS.length), .int .i64 (p3 es NS.length)]
  kp : Kp SM W V
  hp : W.heap.size ≤ p
theorem Cb.set {w W V : World} {b : Nat} {nv bv : Value} {root : Int} {NM : List Txt} {BS : List Int} {NS : List Nd} {a : Option Addr} {n cap : Nat} {T : List Tok} {v : Value} {C : List Int} {base p : Nat} {es es' : List E} {dv : Value} (h : Cb w W V b nv bv root NM BS NS a n cap T v C base p es) (hw : w.heap.size ≤ W.heap.size) (V' : World) (hm : Mk w V' b nv bv dv root NM BS (NS ++ flL es' NS.length)) (hk : Kp SM V V') (i : Nat) (u : Int)
    (he : (#[.int .i64 (p1 es NS.length), .int .i64 (p2 es NS.length), .int .i64 (p3 es NS.length)] : Array Value).setIfInBounds i (.int .i64 u) = #[.int .i64 (p1 es' NS.length), .int .i64 (p2 es' NS.length), .int .i64 (p3 es' NS.length)]) : Cb w W (V'.setCell ⟨p, i, none⟩ (.int .i64 u)) b nv bv root NM BS NS a n cap T v C base p es' := by
  have ha := h.ar.kp hk (by decide)
  have ks : Kp [82] V' (V'.setCell ⟨p, i, none⟩ (.int .i64 u)) := Kp.set ha (by simp) i _
  refine ⟨⟨dv, hm.blk.kp ks (by decide), hm.base, owns_kp hm.names ks (by decide), owns_kp hm.binds ks (by decide), owns_kp hm.nodes ks (by decide), hm.old.setCell (Nat.le_trans hw h.hp) _⟩, (h.tz.kp hk (by decide)).kp ks (by decide), owns_kp (owns_kp h.row hk (by decide)) ks (by decide), he ▸ ha.set i _, ⟨?_, ?_⟩, h.hp⟩
  · exact Nat.le_trans (h.kp.trans hk).size ks.size
  · intro k cs t fr hk2 ht
    have h1 := (h.kp.trans hk).block k cs t fr hk2 ht
    have hlt : k < W.heap.size := (Array.getElem?_eq_some_iff.1 hk2).1
    exact (Below.heap_setCell _ _ _ k (by have := h.hp; simp; omega)).trans h1

/-- The drawn region of the second loop: what is done. -/
structure Cr (w Vd : World) (b : Nat) (nv bv : Value) (root : Int) (NM : List Txt) (BS : List Int) (NS : List Nd) (a : Option Addr) (n cap : Nat) (Tp : List Tok) (cv : Value) (g4 k st en : Nat) (d : Nat → Bool) (x68 x69 x70 x71 x72 x73 x74 x75 x76 x77 x78 x79 x80 x81 x67 x82 x83 x14 x15 : Value) (V : World) : Prop where
  w0 : d 13 = false → V = Vd
  f0 : d 0 = true → x68 = ptr b
  f1 : d 1 = true → x69 = .slice a n cap
  f2 : d 2 = true → x70 = cv
  f3 : d 3 = true → x71 = .int .i64 (k : Int)
  f4 : d 4 = true → x72 = .pointer (some ⟨g4, k, none⟩)
  f5 : d 5 = true → x73 = .int .i64 ((st : Int) - 1)
  f6 : d 6 = true → x74 = .int .i64 (st : Int)
  f7 : d 7 = true → x75 = cv
  f8 : d 8 = true → x76 = .int .i64 (k : Int)
  f9 : d 9 = true → x77 = .int .i64 ((k + 1 : Nat) : Int)
  f10 : d 10 = true → x78 = .pointer (some ⟨g4, k + 1, none⟩)
  f11 : d 11 = true → x79 = .int .i64 (en : Int)
  f12 : d 12 = true → ∃ a' c', x80 = .slice a' (en - st) c' ∧ Tz Vd a' (en - st) c' Tp
  f13 : d 13 = true → PP w Vd b nv bv root NM BS NS 0 (Tp.map ab) (.returned x81) V
  f14 : d 14 = true → x67 = x81
  f15 : d 15 = true → ∃ o, x67 = .tuple #[x82, o]
  f16 : d 16 = true → ∃ z, x67 = .tuple #[z, x83]
  f17 : d 17 = true → x14 = x82
  f18 : d 18 = true → x15 = x83
  p6 : d 6 = true → d 5 = true
  p12 : d 12 = true → d 6 = true ∧ d 11 = true
  p13 : d 13 = true → d 12 = true
  p14 : d 14 = true → d 13 = true
  p15 : d 15 = true → d 14 = true
  p16 : d 16 = true → d 14 = true
  p17 : d 17 = true → d 15 = true
  p18 : d 18 = true → d 16 = true
theorem PP.tuple {w W W' : World} {b : Nat} {nv bv : Value} {root : Int} {NM : List Txt} {BS : List Int} {NS : List Nd} {c : Nat} {L : List Tk} {v : Value} (h : PP w W b nv bv root NM BS NS c L (.returned v) W') : ∃ z o, v = .tuple #[.int .i64 z, .bool o] := by
  rcases h with ⟨ex, -, h, -⟩ | ⟨-, ⟨z, h⟩, -⟩
  · cases h; exact ⟨_, _, rfl⟩
  · cases h; exact ⟨_, _, rfl⟩

theorem below_cell2 {W W' : World} {p : Addr} {v : Value} (hb : Below W.heap.size W W') (h : W.cell? p = some v) : W'.cell? p = some v := by
  rw [hb.cell (World.block_lt_of_cell? W _ h)]
  exact h
theorem f2_size {nm : List Txt} {ls : List (List Tk)} {es : List E} (h : F2 (G nm 0) ls es) : szL es ≤ (ls.map List.length).sum := by
  induction h with
  | nil => simp [szL]
  | cons h1 _ ih => have := g_len h1; simp [szL]; omega
theorem join_len : ∀ ls : List (List Tk), (ls.map List.length).sum ≤ (joinC ls).length
  | [] => by simp [joinC]
  | [l] => by simp [joinC]
  | l :: l' :: ls => by
    rw [joinC_cons l (by simp)]
    have := join_len (l' :: ls)
    simp at this ⊢
    omega
theorem sg_total (L : List Tk) : ((sg 0 (cmp 0 L) L).map List.length).sum ≤ L.length := by
  have := join_len (sg 0 (cmp 0 L) L)
  rw [sg_whole] at this
  exact this

set_option maxRecDepth 100000 in
set_option maxHeartbeats 16000000 in
theorem qcall_rd {w W : World} {b : Nat} {nv bv dv : Value} {root : Int} {NM : List Txt} {BS : List Int} {NS : List Nd} {a : Option Addr} {n cap : Nat} (op : Int) (T : List Tok) (ih : ∀ T' : List Tok, T'.length ≤ T.length → CC w b nv bv root NM BS 27 [] 0 T')
    (hop : op ≠ 0 → arZ op = (ari op : Int) ∧ 1 ≤ ari op ∧ ari op ≤ 3) (hbal : Bal (T.map ab)) (hM : Mk w W b nv bv dv root NM BS NS) (hT : Tz W a n cap T) (hw : ∀ t ∈ T, Wf t) (hn : NS.length + n ≤ 2000) :
    Calls Try.prog 82 #[ptr b, .int .i64 op, .slice a n cap] W fun e W' => PX (CallQ NM op (T.map ab)) w W b nv bv root NM BS NS e W' := by
  have HM := hide hM
  have HT := hide hT
  have HWf := hide hw
  have HTl := hide hT.t.len
  have HIH := hide ih
  have hw0' := hide hM.old.size
  have HOp := hide hop
  have HBal := hide hbal
  obtain ⟨L, hL⟩ : ∃ L, T.map ab = L := ⟨_, rfl⟩
  have HL := hide hL
  have HLl := hide (show L.length = n by rw [← hL, List.length_map, HTl.out])
  rw [hL]
  rw [hL] at HBal
  clear hL hM hT hw ih hop hbal
  go_enter Try.func82, Try.ntmps82
  go_wp2_with fail
  refine (outer_any HT.out.t HWf.out (by omega)).mono ?_
  rw [HL.out]
  rintro e V1 (⟨-, v, rfl, hO, hb⟩ | ⟨hnb, v, rfl, hb⟩)
  · obtain ⟨oa, oc, rfl, hOi⟩ := Iz.of_owns hO
    by_cases hop0 : op = 0
    · subst hop0
      have HB1 := hide (bel HM.out.old hb)
      clear hO hOi hb
      go_wp2_with fail
      go_ret2
      exact PX.no (fun ex hx => hx.1 rfl) HB1.out
    · obtain ⟨har, har1, har3⟩ := HOp.out hop0
      have hopn : (op == 0) = false := by simpa using hop0
      have HOp0 := hide hop0
      clear HOp hop0
      have HM1 := hide (HM.out.later hb)
      have HT1 := hide (HT.out.later hb)
      have HO1 := hide hOi
      have HK1 := hide (Kp.of_below SM hb)
      have hol : (ozl L).length ≤ 2000 := by have := ozl_len L; rw [HLl.out] at this; omega
      obtain ⟨ol, hol2⟩ : ∃ m, (ozl L).length = m := ⟨_, rfl⟩
      have HOL := hide hol2
      rw [hol2] at hol ⊢
      clear hO hOi hb HM HT hol2
      have HR0 := hide (show (V1.alloc (.cells #[.int .i64 (-1)] 3)).ownsRow V1.heap.size 3 1 (.slice (some ⟨V1.heap.size, 0, none⟩) 1 1) ((-1 : Int) :: (cmk L 0).map fun (x : Nat) => (x : Int)).length (in64 ((-1 : Int) :: (cmk L 0).map fun (x : Nat) => (x : Int))) from ⟨rfl, .inr ⟨_, 1, #[.int .i64 (-1)], rfl, Nat.le_refl _, heap_alloc_new V1 _, Nat.le_refl _, by unfold maxLen; omega, rfl, rfl⟩⟩)
      go_wp2_with fail
      go_loopw [10, 11] (fun v i wr => ∃ k : Nat, k ≤ ol ∧ i = .int .i64 (k : Int) ∧ Hid (wr.ownsRow V1.heap.size 3 1 v ((-1 : Int) :: (cmk L k).map fun (x : Nat) => (x : Int)).length (in64 ((-1 : Int) :: (cmk L k).map fun (x : Nat) => (x : Int)))) ∧ Hid (Below V1.heap.size V1 wr)) (fun _ i _ => ol - (intOf i).toNat)
      case atStart => exact ⟨0, Nat.zero_le _, rfl, hide HR0.out, hide (bel1 _ _)⟩
      case round =>
        clear HR0
        obtain ⟨k, hk, rfl, HR, HB⟩ := hrel
        rename World => V
        have hcl : ((-1 : Int) :: (cmk L k).map fun (x : Nat) => (x : Int)).length ≤ 2001 := by have := cmk_len L k; simp; omega
        by_cases hlt : k < ol
        · have hkl : k < (ozl L).length := by rw [HOL.out]; exact hlt
          have HST := hide (cmk_succ hkl)
          obtain ⟨g0, oo, rfl, hoc⟩ := out_cell (L := L) (HO1.out.later HB.out) hkl
          obtain ⟨-, hq1, hq2⟩ := out_at hkl
          rw [HLl.out] at hq1
          obtain ⟨q, tk, hqt⟩ : ∃ q tk, outG L k = (q, tk) := ⟨_, _, rfl⟩
          rw [hqt] at hoc hq1 hq2 HST
          simp only at hoc hq1 hq2 HST
          obtain ⟨g1, off, rfl, e0, e1, e2⟩ := (HT1.out.later HB.out).at hq1
          obtain ⟨hwf, hab⟩ := wf_at HWf.out (i := q) (by rw [HTl.out]; exact hq1)
          rw [HL.out, hq2] at hab
          have hab' : ab (T.getD q t0) = tk := (Option.some.inj hab).symm
          have HMc := hide (mark_ab hwf (s := [44]) (by decide))
          rw [hab', show mkT [44] = .comma by decide] at HMc
          have hk3 : (k : Int) < ol := by omega
          have hk4 : (0 : Int) ≤ k := by omega
          have hq3 : (0 : Int) ≤ q := by omega
          have hq4 : (q : Int) < n := by omega
          clear hqt hab hab' hwf hq2
          generalize htq : T.getD q t0 = t at *
          clear htq
          obtain ⟨kd, X, ps⟩ := t
          simp only at e0 e1 e2 HMc
          go_wp2_with fail
          refine (qmark_any kd ps X [44] _).mono ?_
          rw [HMc.out]
          rintro e V2 ⟨rfl, hb⟩
          have hoc2 := (hb.cell (World.block_lt_of_cell? V _ hoc)).trans hoc
          have HR2 := hide (owns_kp HR.out (Kp.of_below [] hb) (by simp))
          have HB2 := hide (bel HB.out hb)
          clear hb e0 e1 e2 hoc HR HB
          by_cases hc : tk = .comma
          · rw [decide_eq_true hc]
            rw [if_pos hc] at HST
            clear hc
            go_wp2_with (at_builtin; refine list_in (A := (-1 : Int) :: (cmk L k).map fun (x : Nat) => (x : Int)) rfl _ _ rfl rfl (HR2.out.alloc _) (by have := HB2.out.size; simp; omega) _ (q : Int) rfl (HasC.new _ _ _) (by omega) ?_; intro g4 cap4 V4 hown hk4' hold; have HB4 := hide (hold V1 (bel HB2.out (bel1 _ _)) rfl); have HR4 := hide hown; clear hown hk4' hold)
            go_roundw
            case rel => exact ⟨k + 1, by omega, by go_num, hide (by rw [HST.out]; simpa using HR4.out), hide HB4.out⟩
            case measure => simp [intOf]; omega
          · rw [decide_eq_false hc]
            rw [if_neg hc, List.append_nil] at HST
            clear hc
            go_wp2_with fail
            go_roundw
            case rel => exact ⟨k + 1, by omega, by go_num, hide (by rw [HST.out]; exact HR2.out), hide HB2.out⟩
            case measure => simp [intOf]; omega
        · obtain rfl : k = ol := by omega
          have hall := cmk_all L
          rw [HOL.out] at hall
          rw [hall] at HR hcl
          clear hall
          obtain ⟨cl, hcl2⟩ : ∃ m, (cmp 0 L).length = m := ⟨_, rfl⟩
          have HCL := hide hcl2
          have hcll : ((-1 : Int) :: (cmp 0 L).map fun (x : Nat) => (x : Int)).length = cl + 1 := by simp [hcl2]
          have hcl3 : cl ≤ 2000 := by omega
          clear hcl2
          have HRc := hide HR.out
          go_upto_region 11 with (at_builtin; refine list_in (A := (-1 : Int) :: (cmp 0 L).map fun (x : Nat) => (x : Int)) rfl _ _ rfl rfl (HRc.out.alloc _) (by have := HB.out.size; simp; omega) _ (n : Int) rfl (HasC.new _ _ _) (by omega) ?_; intro g4 cap4 V4 hown hk4 hold; have HB4 := hide (hold V1 (bel HB.out (bel1 _ _)) rfl); have HR4 := hide (show V4.ownsRow V1.heap.size 3 1 (.slice (some ⟨g4, 0, none⟩) (cl + 2) cap4) (czL L).length (in64 (czL L)) by rw [czL_snoc, HLl.out]; rw [hcll] at hown; exact hown); clear hown hk4 hold; rw [hcll])
          clear hcll HR HRc HB hcl
          have HCa := hide (show Ca w W V4 b nv bv dv root NM BS NS a n cap T (.slice (some ⟨g4, 0, none⟩) (cl + 2) cap4) (czL L) from ⟨HM1.out.later HB4.out, HT1.out.later HB4.out, own_mono HR4.out (by have := HK1.out.size; exact this), HK1.out.trans (Kp.of_below SM HB4.out)⟩)
          clear HR4 HB4 HM1 HT1 HO1 HK1
          go_wp2_with fail
          refine (varity_any op _).mono ?_
          rintro e V5 ⟨rfl, rfl⟩
          rw [har]
          by_cases hne : cl + 1 = ari op
          · have hnb : (((cl : Int) + 1) != (ari op : Int)) = false := by simp; omega
            have hnb2 : ((((cl + 1 : Nat) : Int)) != (ari op : Int)) = false := by simp; omega
            have hcl4 : cl ≤ 2 := by omega
            have HNe := hide hne
            clear hne har har1 har3
            go_wp2_with fail
            have HCb := hide (show Cb w W (V5.alloc (.cells #[.int .i64 0, .int .i64 0, .int .i64 0] 82)) b nv bv root NM BS NS a n cap T (.slice (some ⟨g4, 0, none⟩) (cl + 2) cap4) (czL L) W.heap.size V5.heap.size [] from ⟨⟨dv, by have h := HCa.out.ma'.later (bel1 V5 (.cells #[.int .i64 0, .int .i64 0, .int .i64 0] 82)); simpa [flL] using h⟩, HCa.out.tz.later (bel1 _ _), HCa.out.row.alloc _, HasC.new _ _ _, HCa.out.kp.trans (Kp.of_below SM (bel1 _ _)), HCa.out.kp.size⟩)
            have hw0 : w.heap.size ≤ W.heap.size := hw0'.out
            clear HCa
            generalize V5.heap.size = p at *
            generalize V5.alloc (.cells #[.int .i64 0, .int .i64 0, .int .i64 0] 82) = V6 at *
            go_loopw [13] (fun i wr => ∃ (k : Nat) (es : List E), k ≤ cl + 1 ∧ i = .int .i64 (k : Int) ∧ Hid (es.length = k) ∧ Hid (F2 (G NM 0) ((sg 0 (cmp 0 L) L).take k) es) ∧ Hid (k ≤ cl → szL es ≤ stC L k) ∧ Hid (Cb w W wr b nv bv root NM BS NS a n cap T (.slice (some ⟨g4, 0, none⟩) (cl + 2) cap4) (czL L) W.heap.size p es)) (fun i _ => cl + 1 - (intOf i).toNat)
            case atStart => exact ⟨0, [], Nat.zero_le _, rfl, hide rfl, hide (by rw [List.take_zero]; exact .nil), hide (fun _ => by simp [szL]), hide HCb.out⟩
            case round =>
              clear HCb
              obtain ⟨k, es, hk, rfl, HEl, HF, HSz, HC⟩ := hrel
              rename World => V
              by_cases hlt : k < cl + 1
              · have hkc : k ≤ (cmp 0 L).length := by rw [HCL.out]; omega
                obtain ⟨hz1, hz2⟩ := cz_at hkc
                obtain ⟨hp1, hp2, hp3, hp4⟩ := piece_at hkc
                have c1 := ints_at (by have h := HC.out.row; rw [czL_len, HCL.out] at h ⊢; exact h) hz1
                have c2 := ints_at (by have h := HC.out.row; rw [czL_len, HCL.out] at h ⊢; exact h) hz2
                have hszk := HSz.out (by omega)
                rw [HLl.out] at hp3
                generalize hst : stC L k = st at *
                generalize hen : enC L k = en at *
                have HPc := hide hp1
                have HP4 := hide hp4
                obtain ⟨dvk, hmk⟩ := HC.out.ma'
                have HVd0 := hide hmk
                clear hz1 hz2 hp1 hp4 hmk hst hen
                have hk1 : (k : Int) + 1 < (cl : Int) + 2 := by omega
                have hk2 : ((k + 1 : Nat) : Int) < ((cl + 2 : Nat) : Int) := by omega
                have hk3 : (0 : Int) ≤ k := by omega
                have hk4 : (k : Int) < ((cl + 2 : Nat) : Int) := by omega
                have hk5 : (0 : Int) ≤ ((k + 1 : Nat) : Int) := by omega
                have hk6 : (k : Int) < (cl : Int) + 2 := by omega
                have hkw : IntKind.i64.wrap ((k : Int) + 1) = ((k + 1 : Nat) : Int) := by rw [IntWalk.i64_in _ ⟨by omega, by omega⟩]; rfl
                have hsw : IntKind.i64.wrap ((st : Int) - 1 + 1) = (st : Int) := by rw [IntWalk.i64_in _ ⟨by omega, by omega⟩]; omega
                go_wp2_with fail
                rw [show decide ((k : Int) < (cl : Int) + 1) = true from decide_eq_true (by omega)]
                obtain ⟨Vd, hVd⟩ : ∃ X : World, ({ V with drawn := V.drawn + 1 } : World) = X := ⟨_, rfl⟩
                have HVd := hide hVd
                have hbd : Below V.heap.size V Vd := by rw [← hVd]; exact ⟨rfl, rfl, rfl, Nat.le_refl _, fun _ _ => rfl⟩
                have HMd := hide (HVd0.out.later hbd)
                have HTd := hide (HC.out.tz.later hbd)
                have c1d := below_cell2 hbd c1
                have c2d := below_cell2 hbd c2
                have HBd := hide hbd
                clear hVd hbd c1 c2
                refine wp_region_flags3 mixedD (ord_of2 (by kernel_rfl)) (fun a0 d A V => ∃ x68 x69 x70 x71 x72 x73 x74 x75 x76 x77 x78 x79 x80 x81 x67 x82 x83 x14 x15, A = ⟨(((((((((((((((((((a0.tmps.setIfInBounds 68 x68).setIfInBounds 69 x69).setIfInBounds 70 x70).setIfInBounds 71 x71).setIfInBounds 72 x72).setIfInBounds 73 x73).setIfInBounds 74 x74).setIfInBounds 75 x75).setIfInBounds 76 x76).setIfInBounds 77 x77).setIfInBounds 78 x78).setIfInBounds 79 x79).setIfInBounds 80 x80).setIfInBounds 81 x81).setIfInBounds 67 x67).setIfInBounds 82 x82).setIfInBounds 83 x83).setIfInBounds 14 x14).setIfInBounds 15 x15), a0.defers⟩ ∧ Cr w Vd b nv bv root NM BS (NS ++ flL es NS.length) a n cap ((T.take en).drop st) (.slice (some ⟨g4, 0, none⟩) (cl + 2) cap4) g4 k st en d x68 x69 x70 x71 x72 x73 x74 x75 x76 x77 x78 x79 x80 x81 x67 x82 x83 x14 x15 V) ?_ ?_ ?_
                · simp only [List.setIfInBounds_toArray, List.set_cons_succ, List.set_cons_zero]
                  refine ⟨_, _, _, _, _, _, _, _, _, _, _, _, _, _, _, _, _, _, _, rfl, fun _ => HVd.out, ?_, ?_, ?_, ?_, ?_, ?_, ?_, ?_, ?_, ?_, ?_, ?_, ?_, ?_, ?_, ?_, ?_, ?_, ?_, ?_, ?_, ?_, ?_, ?_, ?_, ?_, ?_⟩
                  all_goals (intro h; cases h)
                · rintro d A V i o ⟨x68, x69, x70, x71, x72, x73, x74, x75, x76, x77, x78, x79, x80, x81, x67, x82, x83, x14, x15, rfl, C⟩ hdi ho haft Q' hk'
                  simp only [List.setIfInBounds_toArray, List.set_cons_succ, List.set_cons_zero] at hk' ⊢
                  have HK := hide hk'
                  clear hk'
                  have hi : i < 19 := (Array.getElem?_eq_some_iff.1 ho).1
                  match i, hi with
                  | 0, _ =>
                    obtain rfl := (Option.some.inj ho)
                    clear haft ho
                    have C := hide C
                    go_wp2
                    have C := C.out
                    exact HK.out _ _ ⟨_, x69, x70, x71, x72, x73, x74, x75, x76, x77, x78, x79, x80, x81, x67, x82, x83, x14, x15, rfl, ⟨C.w0, (fun _ => rfl), C.f1, C.f2, C.f3, C.f4, C.f5, C.f6, C.f7, C.f8, C.f9, C.f10, C.f11, C.f12, C.f13, C.f14, C.f15, C.f16, C.f17, C.f18, (fun h => or_t2 (C.p6 h)), (fun h => ⟨or_t2 (C.p12 h).1, or_t2 (C.p12 h).2⟩), (fun h => or_t2 (C.p13 h)), (fun h => or_t2 (C.p14 h)), (fun h => or_t2 (C.p15 h)), (fun h => or_t2 (C.p16 h)), (fun h => or_t2 (C.p17 h)), (fun h => or_t2 (C.p18 h))⟩⟩
                  | 1, _ =>
                    obtain rfl := (Option.some.inj ho)
                    clear haft ho
                    have C := hide C
                    go_wp2
                    have C := C.out
                    exact HK.out _ _ ⟨x68, _, x70, x71, x72, x73, x74, x75, x76, x77, x78, x79, x80, x81, x67, x82, x83, x14, x15, rfl, ⟨C.w0, C.f0, (fun _ => rfl), C.f2, C.f3, C.f4, C.f5, C.f6, C.f7, C.f8, C.f9, C.f10, C.f11, C.f12, C.f13, C.f14, C.f15, C.f16, C.f17, C.f18, (fun h => or_t2 (C.p6 h)), (fun h => ⟨or_t2 (C.p12 h).1, or_t2 (C.p12 h).2⟩), (fun h => or_t2 (C.p13 h)), (fun h => or_t2 (C.p14 h)), (fun h => or_t2 (C.p15 h)), (fun h => or_t2 (C.p16 h)), (fun h => or_t2 (C.p17 h)), (fun h => or_t2 (C.p18 h))⟩⟩
                  | 2, _ =>
                    obtain rfl := (Option.some.inj ho)
                    clear haft ho
                    have C := hide C
                    go_wp2
                    have C := C.out
                    exact HK.out _ _ ⟨x68, x69, _, x71, x72, x73, x74, x75, x76, x77, x78, x79, x80, x81, x67, x82, x83, x14, x15, rfl, ⟨C.w0, C.f0, C.f1, (fun _ => rfl), C.f3, C.f4, C.f5, C.f6, C.f7, C.f8, C.f9, C.f10, C.f11, C.f12, C.f13, C.f14, C.f15, C.f16, C.f17, C.f18, (fun h => or_t2 (C.p6 h)), (fun h => ⟨or_t2 (C.p12 h).1, or_t2 (C.p12 h).2⟩), (fun h => or_t2 (C.p13 h)), (fun h => or_t2 (C.p14 h)), (fun h => or_t2 (C.p15 h)), (fun h => or_t2 (C.p16 h)), (fun h => or_t2 (C.p17 h)), (fun h => or_t2 (C.p18 h))⟩⟩
                  | 3, _ =>
                    obtain rfl := (Option.some.inj ho)
                    clear haft ho
                    have C := hide C
                    go_wp2
                    have C := C.out
                    exact HK.out _ _ ⟨x68, x69, x70, _, x72, x73, x74, x75, x76, x77, x78, x79, x80, x81, x67, x82, x83, x14, x15, rfl, ⟨C.w0, C.f0, C.f1, C.f2, (fun _ => rfl), C.f4, C.f5, C.f6, C.f7, C.f8, C.f9, C.f10, C.f11, C.f12, C.f13, C.f14, C.f15, C.f16, C.f17, C.f18, (fun h => or_t2 (C.p6 h)), (fun h => ⟨or_t2 (C.p12 h).1, or_t2 (C.p12 h).2⟩), (fun h => or_t2 (C.p13 h)), (fun h => or_t2 (C.p14 h)), (fun h => or_t2 (C.p15 h)), (fun h => or_t2 (C.p16 h)), (fun h => or_t2 (C.p17 h)), (fun h => or_t2 (C.p18 h))⟩⟩
                  | 4, _ =>
                    obtain rfl := (Option.some.inj ho)
                    have g2 : d 2 = true := haft ⟨2, .data⟩ (by simp) rfl
                    have g3 : d 3 = true := haft ⟨3, .data⟩ (by simp) rfl
                    clear haft ho
                    have e2 := C.f2 g2
                    subst e2
                    have e3 := C.f3 g3
                    subst e3
                    have C := hide C
                    go_wp2
                    have C := C.out
                    exact HK.out _ _ ⟨x68, x69, _, _, _, x73, x74, x75, x76, x77, x78, x79, x80, x81, x67, x82, x83, x14, x15, rfl, ⟨C.w0, C.f0, C.f1, C.f2, C.f3, (fun _ => by first | rfl | (simp; done) | (congr 2; omega)), C.f5, C.f6, C.f7, C.f8, C.f9, C.f10, C.f11, C.f12, C.f13, C.f14, C.f15, C.f16, C.f17, C.f18, (fun h => or_t2 (C.p6 h)), (fun h => ⟨or_t2 (C.p12 h).1, or_t2 (C.p12 h).2⟩), (fun h => or_t2 (C.p13 h)), (fun h => or_t2 (C.p14 h)), (fun h => or_t2 (C.p15 h)), (fun h => or_t2 (C.p16 h)), (fun h => or_t2 (C.p17 h)), (fun h => or_t2 (C.p18 h))⟩⟩
                  | 5, _ =>
                    obtain rfl := (Option.some.inj ho)
                    have g4 : d 4 = true := haft ⟨4, .data⟩ (by simp) rfl
                    clear haft ho
                    have nope : d 13 = true → False := fun h => by have h2 := C.p6 (C.p12 (C.p13 h)).1; rw [hdi] at h2; cases h2
                    have hV : V = Vd := C.w0 (by
                      cases h : d 13 with
                      | false => rfl
                      | true => exact (nope h).elim)
                    subst hV
                    have e4 := C.f4 g4
                    subst e4
                    have C := hide C
                    go_wp2
                    have C := C.out
                    exact HK.out _ _ ⟨x68, x69, x70, x71, _, _, x74, x75, x76, x77, x78, x79, x80, x81, x67, x82, x83, x14, x15, rfl, ⟨C.w0, C.f0, C.f1, C.f2, C.f3, C.f4, (fun _ => by first | rfl | (simp; done) | (congr 2; omega)), C.f6, C.f7, C.f8, C.f9, C.f10, C.f11, C.f12, C.f13, C.f14, C.f15, C.f16, C.f17, C.f18, (fun h => or_t2 (C.p6 h)), (fun h => ⟨or_t2 (C.p12 h).1, or_t2 (C.p12 h).2⟩), (fun h => or_t2 (C.p13 h)), (fun h => or_t2 (C.p14 h)), (fun h => or_t2 (C.p15 h)), (fun h => or_t2 (C.p16 h)), (fun h => or_t2 (C.p17 h)), (fun h => or_t2 (C.p18 h))⟩⟩
                  | 6, _ =>
                    obtain rfl := (Option.some.inj ho)
                    have g5 : d 5 = true := haft ⟨5, .data⟩ (by simp) rfl
                    clear haft ho
                    have e5 := C.f5 g5
                    subst e5
                    have C := hide C
                    go_wp2
                    have C := C.out
                    exact HK.out _ _ ⟨x68, x69, x70, x71, x72, _, _, x75, x76, x77, x78, x79, x80, x81, x67, x82, x83, x14, x15, rfl, ⟨C.w0, C.f0, C.f1, C.f2, C.f3, C.f4, C.f5, (fun _ => by first | rfl | (simp; done) | (congr 2; omega)), C.f7, C.f8, C.f9, C.f10, C.f11, C.f12, C.f13, C.f14, C.f15, C.f16, C.f17, C.f18, (fun _ => or_t2 g5), (fun h => ⟨or_t2 (C.p12 h).1, or_t2 (C.p12 h).2⟩), (fun h => or_t2 (C.p13 h)), (fun h => or_t2 (C.p14 h)), (fun h => or_t2 (C.p15 h)), (fun h => or_t2 (C.p16 h)), (fun h => or_t2 (C.p17 h)), (fun h => or_t2 (C.p18 h))⟩⟩
                  | 7, _ =>
                    obtain rfl := (Option.some.inj ho)
                    clear haft ho
                    have C := hide C
                    go_wp2
                    have C := C.out
                    exact HK.out _ _ ⟨x68, x69, x70, x71, x72, x73, x74, _, x76, x77, x78, x79, x80, x81, x67, x82, x83, x14, x15, rfl, ⟨C.w0, C.f0, C.f1, C.f2, C.f3, C.f4, C.f5, C.f6, (fun _ => rfl), C.f8, C.f9, C.f10, C.f11, C.f12, C.f13, C.f14, C.f15, C.f16, C.f17, C.f18, (fun h => or_t2 (C.p6 h)), (fun h => ⟨or_t2 (C.p12 h).1, or_t2 (C.p12 h).2⟩), (fun h => or_t2 (C.p13 h)), (fun h => or_t2 (C.p14 h)), (fun h => or_t2 (C.p15 h)), (fun h => or_t2 (C.p16 h)), (fun h => or_t2 (C.p17 h)), (fun h => or_t2 (C.p18 h))⟩⟩
                  | 8, _ =>
                    obtain rfl := (Option.some.inj ho)
                    clear haft ho
                    have C := hide C
                    go_wp2
                    have C := C.out
                    exact HK.out _ _ ⟨x68, x69, x70, x71, x72, x73, x74, x75, _, x77, x78, x79, x80, x81, x67, x82, x83, x14, x15, rfl, ⟨C.w0, C.f0, C.f1, C.f2, C.f3, C.f4, C.f5, C.f6, C.f7, (fun _ => rfl), C.f9, C.f10, C.f11, C.f12, C.f13, C.f14, C.f15, C.f16, C.f17, C.f18, (fun h => or_t2 (C.p6 h)), (fun h => ⟨or_t2 (C.p12 h).1, or_t2 (C.p12 h).2⟩), (fun h => or_t2 (C.p13 h)), (fun h => or_t2 (C.p14 h)), (fun h => or_t2 (C.p15 h)), (fun h => or_t2 (C.p16 h)), (fun h => or_t2 (C.p17 h)), (fun h => or_t2 (C.p18 h))⟩⟩
                  | 9, _ =>
                    obtain rfl := (Option.some.inj ho)
                    have g8 : d 8 = true := haft ⟨8, .data⟩ (by simp) rfl
                    clear haft ho
                    have e8 := C.f8 g8
                    subst e8
                    have C := hide C
                    go_wp2
                    have C := C.out
                    exact HK.out _ _ ⟨x68, x69, x70, x71, x72, x73, x74, x75, _, _, x78, x79, x80, x81, x67, x82, x83, x14, x15, rfl, ⟨C.w0, C.f0, C.f1, C.f2, C.f3, C.f4, C.f5, C.f6, C.f7, C.f8, (fun _ => by first | rfl | (simp; done) | (congr 2; omega)), C.f10, C.f11, C.f12, C.f13, C.f14, C.f15, C.f16, C.f17, C.f18, (fun h => or_t2 (C.p6 h)), (fun h => ⟨or_t2 (C.p12 h).1, or_t2 (C.p12 h).2⟩), (fun h => or_t2 (C.p13 h)), (fun h => or_t2 (C.p14 h)), (fun h => or_t2 (C.p15 h)), (fun h => or_t2 (C.p16 h)), (fun h => or_t2 (C.p17 h)), (fun h => or_t2 (C.p18 h))⟩⟩
                  | 10, _ =>
                    obtain rfl := (Option.some.inj ho)
                    have g7 : d 7 = true := haft ⟨7, .data⟩ (by simp) rfl
                    have g9 : d 9 = true := haft ⟨9, .data⟩ (by simp) rfl
                    clear haft ho
                    have e7 := C.f7 g7
                    subst e7
                    have e9 := C.f9 g9
                    subst e9
                    have C := hide C
                    go_wp2
                    have C := C.out
                    exact HK.out _ _ ⟨x68, x69, x70, x71, x72, x73, x74, _, x76, _, _, x79, x80, x81, x67, x82, x83, x14, x15, rfl, ⟨C.w0, C.f0, C.f1, C.f2, C.f3, C.f4, C.f5, C.f6, C.f7, C.f8, C.f9, (fun _ => by first | rfl | (simp; done) | (congr 2; omega)), C.f11, C.f12, C.f13, C.f14, C.f15, C.f16, C.f17, C.f18, (fun h => or_t2 (C.p6 h)), (fun h => ⟨or_t2 (C.p12 h).1, or_t2 (C.p12 h).2⟩), (fun h => or_t2 (C.p13 h)), (fun h => or_t2 (C.p14 h)), (fun h => or_t2 (C.p15 h)), (fun h => or_t2 (C.p16 h)), (fun h => or_t2 (C.p17 h)), (fun h => or_t2 (C.p18 h))⟩⟩
                  | 11, _ =>
                    obtain rfl := (Option.some.inj ho)
                    have g10 : d 10 = true := haft ⟨10, .data⟩ (by simp) rfl
                    clear haft ho
                    have nope : d 13 = true → False := fun h => by have h2 := (C.p12 (C.p13 h)).2; rw [hdi] at h2; cases h2
                    have hV : V = Vd := C.w0 (by
                      cases h : d 13 with
                      | false => rfl
                      | true => exact (nope h).elim)
                    subst hV
                    have e10 := C.f10 g10
                    subst e10
                    have C := hide C
                    go_wp2
                    have C := C.out
                    exact HK.out _ _ ⟨x68, x69, x70, x71, x72, x73, x74, x75, x76, x77, _, _, x80, x81, x67, x82, x83, x14, x15, rfl, ⟨C.w0, C.f0, C.f1, C.f2, C.f3, C.f4, C.f5, C.f6, C.f7, C.f8, C.f9, C.f10, (fun _ => by first | rfl | (simp; done) | (congr 2; omega)), C.f12, C.f13, C.f14, C.f15, C.f16, C.f17, C.f18, (fun h => or_t2 (C.p6 h)), (fun h => ⟨or_t2 (C.p12 h).1, or_t2 (C.p12 h).2⟩), (fun h => or_t2 (C.p13 h)), (fun h => or_t2 (C.p14 h)), (fun h => or_t2 (C.p15 h)), (fun h => or_t2 (C.p16 h)), (fun h => or_t2 (C.p17 h)), (fun h => or_t2 (C.p18 h))⟩⟩
                  | 12, _ =>
                    obtain rfl := (Option.some.inj ho)
                    have g1 : d 1 = true := haft ⟨1, .data⟩ (by simp) rfl
                    have g6 : d 6 = true := haft ⟨6, .data⟩ (by simp) rfl
                    have g11 : d 11 = true := haft ⟨11, .data⟩ (by simp) rfl
                    clear haft ho
                    have nope : d 13 = true → False := fun h => by have h2 := C.p13 h; rw [hdi] at h2; cases h2
                    have hV : V = Vd := C.w0 (by
                      cases h : d 13 with
                      | false => rfl
                      | true => exact (nope h).elim)
                    subst hV
                    have e1 := C.f1 g1
                    subst e1
                    have e6 := C.f6 g6
                    subst e6
                    have e11 := C.f11 g11
                    subst e11
                    have C := hide C
                    refine sub_lh rfl _ _ _ rfl rfl HTd.out st en (by rfl) (by rfl) (by omega) (by omega) ?_
                    intro a' c' hsub
                    have C := C.out
                    exact HK.out _ _ ⟨x68, _, x70, x71, x72, x73, _, x75, x76, x77, x78, _, _, x81, x67, x82, x83, x14, x15, rfl, ⟨C.w0, C.f0, C.f1, C.f2, C.f3, C.f4, C.f5, C.f6, C.f7, C.f8, C.f9, C.f10, C.f11, (fun _ => ⟨a', c', rfl, hsub⟩), C.f13, C.f14, C.f15, C.f16, C.f17, C.f18, (fun h => or_t2 (C.p6 h)), (fun _ => ⟨or_t2 g6, or_t2 g11⟩), (fun h => or_t2 (C.p13 h)), (fun h => or_t2 (C.p14 h)), (fun h => or_t2 (C.p15 h)), (fun h => or_t2 (C.p16 h)), (fun h => or_t2 (C.p17 h)), (fun h => or_t2 (C.p18 h))⟩⟩
                  | 13, _ =>
                    obtain rfl := (Option.some.inj ho)
                    have g0 : d 0 = true := haft ⟨0, .data⟩ (by simp) rfl
                    have g12 : d 12 = true := haft ⟨12, .data⟩ (by simp) rfl
                    clear haft ho
                    have e0 := C.f0 g0
                    subst e0
                    have hV : V = Vd := C.w0 hdi
                    subst hV
                    obtain ⟨a', c', e12, hTp⟩ := C.f12 g12
                    subst e12
                    have hcc := HIH.out ((T.take en).drop st) (by rw [List.length_drop, List.length_take, HTl.out]; omega) V dvk (NS ++ flL es NS.length) a' (en - st) c' HMd.out hTp (wf_sub HWf.out st en) (by rw [List.length_append, flL_len]; omega)
                    have C := hide C
                    have HCc := hide hcc
                    clear hcc
                    go_wp2_with fail
                    refine Calls.mono (show Calls Try.prog 27 #[ptr b, .slice a' (en - st) c'] V _ from HCc.out) ?_
                    intro e V6 hpp
                    have hpp2 : ∃ v, e = .returned v := by rcases hpp with ⟨ex, -, h, -⟩ | ⟨-, ⟨z, h⟩, -⟩ <;> exact ⟨_, h⟩
                    obtain ⟨v, rfl⟩ := hpp2
                    have HPp := hide hpp
                    clear hpp
                    go_wp2_with fail
                    have C := C.out
                    have hpp := HPp.out
                    exact HK.out _ _ ⟨_, x69, x70, x71, x72, x73, x74, x75, x76, x77, x78, x79, _, _, x67, x82, x83, x14, x15, rfl, ⟨(fun h => by cases h), C.f0, C.f1, C.f2, C.f3, C.f4, C.f5, C.f6, C.f7, C.f8, C.f9, C.f10, C.f11, C.f12, (fun _ => hpp), (fun h => by have h2 := C.p14 h; rw [hdi] at h2; cases h2), C.f15, C.f16, C.f17, C.f18, (fun h => or_t2 (C.p6 h)), (fun h => ⟨or_t2 (C.p12 h).1, or_t2 (C.p12 h).2⟩), (fun _ => or_t2 g12), (fun h => or_t2 (C.p14 h)), (fun h => or_t2 (C.p15 h)), (fun h => or_t2 (C.p16 h)), (fun h => or_t2 (C.p17 h)), (fun h => or_t2 (C.p18 h))⟩⟩
                  | 14, _ =>
                    obtain rfl := (Option.some.inj ho)
                    have g13 : d 13 = true := haft ⟨13, .data⟩ (by simp) rfl
                    clear haft ho
                    have C := hide C
                    go_wp2
                    have C := C.out
                    exact HK.out _ _ ⟨x68, x69, x70, x71, x72, x73, x74, x75, x76, x77, x78, x79, x80, x81, _, x82, x83, x14, x15, rfl, ⟨C.w0, C.f0, C.f1, C.f2, C.f3, C.f4, C.f5, C.f6, C.f7, C.f8, C.f9, C.f10, C.f11, C.f12, C.f13, (fun _ => rfl), (fun h => by have h2 := C.p15 h; rw [hdi] at h2; cases h2), (fun h => by have h2 := C.p16 h; rw [hdi] at h2; cases h2), C.f17, C.f18, (fun h => or_t2 (C.p6 h)), (fun h => ⟨or_t2 (C.p12 h).1, or_t2 (C.p12 h).2⟩), (fun h => or_t2 (C.p13 h)), (fun _ => or_t2 g13), (fun h => or_t2 (C.p15 h)), (fun h => or_t2 (C.p16 h)), (fun h => or_t2 (C.p17 h)), (fun h => or_t2 (C.p18 h))⟩⟩
                  | 15, _ =>
                    obtain rfl := (Option.some.inj ho)
                    have g14 : d 14 = true := haft ⟨14, .data⟩ (by simp) rfl
                    clear haft ho
                    have e14 := C.f14 g14
                    obtain ⟨z, oo, e13⟩ := (C.f13 (C.p14 g14)).tuple
                    subst e14 e13
                    have C := hide C
                    go_wp2
                    have C := C.out
                    exact HK.out _ _ ⟨x68, x69, x70, x71, x72, x73, x74, x75, x76, x77, x78, x79, x80, _, _, _, x83, x14, x15, rfl, ⟨C.w0, C.f0, C.f1, C.f2, C.f3, C.f4, C.f5, C.f6, C.f7, C.f8, C.f9, C.f10, C.f11, C.f12, C.f13, C.f14, (fun _ => ⟨_, rfl⟩), C.f16, (fun h => by have h2 := C.p17 h; rw [hdi] at h2; cases h2), C.f18, (fun h => or_t2 (C.p6 h)), (fun h => ⟨or_t2 (C.p12 h).1, or_t2 (C.p12 h).2⟩), (fun h => or_t2 (C.p13 h)), (fun h => or_t2 (C.p14 h)), (fun _ => or_t2 g14), (fun h => or_t2 (C.p16 h)), (fun h => or_t2 (C.p17 h)), (fun h => or_t2 (C.p18 h))⟩⟩
                  | 16, _ =>
                    obtain rfl := (Option.some.inj ho)
                    have g14 : d 14 = true := haft ⟨14, .data⟩ (by simp) rfl
                    clear haft ho
                    have e14 := C.f14 g14
                    obtain ⟨z, oo, e13⟩ := (C.f13 (C.p14 g14)).tuple
                    subst e14 e13
                    have C := hide C
                    go_wp2
                    have C := C.out
                    exact HK.out _ _ ⟨x68, x69, x70, x71, x72, x73, x74, x75, x76, x77, x78, x79, x80, _, _, x82, _, x14, x15, rfl, ⟨C.w0, C.f0, C.f1, C.f2, C.f3, C.f4, C.f5, C.f6, C.f7, C.f8, C.f9, C.f10, C.f11, C.f12, C.f13, C.f14, C.f15, (fun _ => ⟨_, rfl⟩), C.f17, (fun h => by have h2 := C.p18 h; rw [hdi] at h2; cases h2), (fun h => or_t2 (C.p6 h)), (fun h => ⟨or_t2 (C.p12 h).1, or_t2 (C.p12 h).2⟩), (fun h => or_t2 (C.p13 h)), (fun h => or_t2 (C.p14 h)), (fun h => or_t2 (C.p15 h)), (fun _ => or_t2 g14), (fun h => or_t2 (C.p17 h)), (fun h => or_t2 (C.p18 h))⟩⟩
                  | 17, _ =>
                    obtain rfl := (Option.some.inj ho)
                    have g15 : d 15 = true := haft ⟨15, .data⟩ (by simp) rfl
                    clear haft ho
                    have C := hide C
                    go_wp2
                    have C := C.out
                    exact HK.out _ _ ⟨x68, x69, x70, x71, x72, x73, x74, x75, x76, x77, x78, x79, x80, x81, x67, x82, x83, _, x15, rfl, ⟨C.w0, C.f0, C.f1, C.f2, C.f3, C.f4, C.f5, C.f6, C.f7, C.f8, C.f9, C.f10, C.f11, C.f12, C.f13, C.f14, C.f15, C.f16, (fun _ => rfl), C.f18, (fun h => or_t2 (C.p6 h)), (fun h => ⟨or_t2 (C.p12 h).1, or_t2 (C.p12 h).2⟩), (fun h => or_t2 (C.p13 h)), (fun h => or_t2 (C.p14 h)), (fun h => or_t2 (C.p15 h)), (fun h => or_t2 (C.p16 h)), (fun _ => or_t2 g15), (fun h => or_t2 (C.p18 h))⟩⟩
                  | 18, _ =>
                    obtain rfl := (Option.some.inj ho)
                    have g16 : d 16 = true := haft ⟨16, .data⟩ (by simp) rfl
                    clear haft ho
                    have C := hide C
                    go_wp2
                    have C := C.out
                    exact HK.out _ _ ⟨x68, x69, x70, x71, x72, x73, x74, x75, x76, x77, x78, x79, x80, x81, x67, x82, x83, x14, _, rfl, ⟨C.w0, C.f0, C.f1, C.f2, C.f3, C.f4, C.f5, C.f6, C.f7, C.f8, C.f9, C.f10, C.f11, C.f12, C.f13, C.f14, C.f15, C.f16, C.f17, (fun _ => rfl), (fun h => or_t2 (C.p6 h)), (fun h => ⟨or_t2 (C.p12 h).1, or_t2 (C.p12 h).2⟩), (fun h => or_t2 (C.p13 h)), (fun h => or_t2 (C.p14 h)), (fun h => or_t2 (C.p15 h)), (fun h => or_t2 (C.p16 h)), (fun h => or_t2 (C.p17 h)), (fun _ => or_t2 g16)⟩⟩
                rintro d A V7 ⟨x68, x69, x70, x71, x72, x73, x74, x75, x76, x77, x78, x79, x80, x81, x67, x82, x83, x14, x15, rfl, C⟩ hall
                simp only [List.setIfInBounds_toArray, List.set_cons_succ, List.set_cons_zero]
                have Dn : ∀ i, i < 19 → d i = true := hall
                have hpp := C.f13 (Dn 13 (by omega))
                have e14 := C.f14 (Dn 14 (by omega))
                obtain ⟨o15, e15⟩ := C.f15 (Dn 15 (by omega))
                obtain ⟨z16, e16⟩ := C.f16 (Dn 16 (by omega))
                have e17 := C.f17 (Dn 17 (by omega))
                have e18 := C.f18 (Dn 18 (by omega))
                clear C hall Dn
                subst e17 e18
                rw [e14] at e15 e16
                rw [List.map_drop, List.map_take, HL.out] at hpp
                have hkv : Kp SM V Vd := Kp.of_below SM HBd.out
                rcases hpp with ⟨ex, hg, he, ⟨dv7, hm7⟩, hk7⟩ | ⟨hg, ⟨z, he⟩, hb7⟩
                · cases he
                  simp only [Value.tuple.injEq, Array.mk.injEq, List.cons.injEq, and_true] at e15 e16
                  obtain ⟨e15, -⟩ := e15
                  obtain ⟨-, e16⟩ := e16
                  subst e15 e16
                  have HG := hide hg
                  have hsz7 := g_len hg
                  simp only [List.length_drop, List.length_take, HLl.out] at hsz7
                  have HM7 := hide (show Mk w V7 b nv bv dv7 root NM BS (NS ++ flL (es ++ [ex]) NS.length) by
                    have h := hm7
                    rw [List.length_append, flL_len] at h
                    rw [flL_snoc, ← List.append_assoc]
                    exact h)
                  have hlen7 : (NS ++ flL es NS.length).length = NS.length + szL es := by rw [List.length_append, flL_len]
                  rw [hlen7]
                  obtain ⟨zz, hzz⟩ : ∃ z, ((NS.length + szL es + ex.size : Nat) : Int) - 1 = z := ⟨_, rfl⟩
                  rw [hzz]
                  have hkk := hkv.trans hk7
                  have hes := HEl.out
                  have HN7 := hide (HC.out.set hw0 V7 HM7.out hkk k zz (by
                    rw [← hzz]
                    match es, hes with
                    | [], hes => subst hes; simp [p1, p2, p3, szL]
                    | [y0], hes => subst hes; simp [p1, p2, p3, szL]
                    | [y0, y1], hes => subst hes; simp [p1, p2, p3, szL]; omega
                    | _ :: _ :: _ :: _, hes => simp at hes; omega))
                  have ha7 := HC.out.ar.kp hkk (by decide)
                  obtain ⟨av, hav⟩ : ∃ v, (#[.int .i64 (p1 es NS.length), .int .i64 (p2 es NS.length), .int .i64 (p3 es NS.length)] : Array Value)[k]? = some v := by
                    have : k < 3 := by omega
                    exact ⟨_, Array.getElem?_eq_getElem (by simpa using this)⟩
                  have q0 := ha7.cell k hav
                  have q1 := ha7.frozen k
                  have hk9 : (k : Int) < 3 := by omega
                  have HF7 := hide (show F2 (G NM 0) ((sg 0 (cmp 0 L) L).take (k + 1)) (es ++ [ex]) from by
                    have hlt' := (List.getElem?_eq_some_iff.1 HPc.out).1
                    rw [List.take_succ_eq_append_getElem hlt']
                    refine HF.out.snoc ?_
                    have h := HPc.out
                    rw [List.getElem?_eq_getElem hlt'] at h
                    rw [Option.some.inj h]
                    exact HG.out)
                  have HS7 := hide (show k + 1 ≤ cl → szL (es ++ [ex]) ≤ stC L (k + 1) from fun h => by
                    rw [szL_snoc, HP4.out (by rw [HCL.out]; omega)]
                    omega)
                  clear hm7 hk7 hkk hg ha7 hav hzz hlen7 e14
                  go_wp2_with fail
                  go_roundw
                  case rel => exact ⟨k + 1, es ++ [ex], by omega, by go_num, hide (by rw [List.length_append, HEl.out]; rfl), hide HF7.out, hide HS7.out, hide HN7.out⟩
                  case measure => simp [intOf]; omega
                · cases he
                  simp only [Value.tuple.injEq, Array.mk.injEq, List.cons.injEq, and_true] at e15 e16
                  obtain ⟨e15, -⟩ := e15
                  obtain ⟨-, e16⟩ := e16
                  subst e15 e16
                  have HNo := hide (show ∀ ex, ¬ CallQ NM op L ex from fun ex hx => by
                    obtain ⟨-, es', h1, -, -⟩ := hx
                    obtain ⟨y, hy⟩ := h1.get k _ HPc.out
                    exact hg y hy)
                  have HB7 := hide hb7
                  clear hg hb7 e14
                  go_wp2_with fail
                  go_ret2
                  exact PX.no HNo.out HB7.out
              · obtain rfl : k = cl + 1 := by omega
                obtain ⟨dvk, hmk⟩ := HC.out.ma'
                have hes := HEl.out
                have HFe := hide (show F2 (G NM 0) (sg 0 (cmp 0 L) L) es by
                  have h := HF.out
                  rw [List.take_of_length_le (by rw [sg_len, HCL.out]; exact Nat.le_refl _)] at h
                  exact h)
                obtain ⟨hfl, hsz⟩ := mkE_flat (o := op) (es := es) (by omega) NS.length
                have HFl := hide hfl
                have HSz2 := hide hsz
                have hlen : (NS ++ flL es NS.length).length = NS.length + szL es := by rw [List.length_append, flL_len]
                have HAd := hide (madd_any hmk ⟨op, p1 es NS.length, p2 es NS.length, p3 es NS.length, 0, 0, 0, 0, 0⟩ (by rw [hlen]; have := f2_size HFe.out; have h2 := sg_total L; rw [HLl.out] at h2; omega))
                rw [hlen] at HAd
                have a0 := HC.out.ar.cell 0 rfl
                have a1 := HC.out.ar.cell 1 rfl
                have a2 := HC.out.ar.cell 2 rfl
                generalize p1 es NS.length = y1 at *
                generalize p2 es NS.length = y2 at *
                generalize p3 es NS.length = y3 at *
                have hkw : IntKind.i64.wrap (((cl + 1 : Nat) : Int) + 1) = ((cl + 2 : Nat) : Int) := by rw [IntWalk.i64_in _ ⟨by omega, by omega⟩]; omega
                clear hmk hfl hsz hlen
                go_wp2_with fail
                refine HAd.out.mono ?_
                rintro e V9 ⟨rfl, ⟨dv9, hm9⟩, hk9⟩
                have HM9 := hide hm9
                have HK9 := hide (HC.out.kp.trans hk9)
                clear hm9 hk9
                go_wp2_with fail
                refine bodyPost_ret (v := .tuple #[.int .i64 ((NS.length + szL es : Nat) : Int), .bool true]) (by simp [results, Try.results82, go_sem]) rfl (.inl ⟨mkE op es, ⟨HOp0.out, es, HFe.out, by rw [hes]; exact HNe.out, rfl⟩, ?_, ⟨dv9, ?_⟩, HK9.out⟩)
                · exact ret_pt (by rw [HSz2.out]; omega)
                · rw [HFl.out, ← List.append_assoc]
                  exact HM9.out
          · have hnb : (((cl : Int) + 1) != (ari op : Int)) = true := by simp; omega
            have HNo := hide (show ∀ ex, ¬ CallQ NM op L ex from fun ex hx => by
              obtain ⟨-, es, h1, h2, -⟩ := hx
              have := h1.len
              rw [sg_len, HCL.out] at this
              omega)
            clear hne har har1 har3
            go_wp2_with fail
            go_ret2
            exact PX.no HNo.out HCa.out.ma'.old
  · exact absurd HBal.out hnb

end Go.Proofs.Ytamekjocchekoaa
