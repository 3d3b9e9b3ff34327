/-
  A region that draws its order, by one invariant on what is done, the slots and the world: each operation is looked at once, in whatever order they come.
-/
import Derived.Test.YtlhbgkaknfhlnaaGreatZLxA
import Derived.Orders
import Derived.Tactics
import Derived.Test.YtlhbgkaknfhlnaaGreatZE4
import Derived.Test.YtlhbgkaknfhlnaaGreatZE5
namespace Go.Proofs.YtlhbgkaknfhlnaaGreat
set_option linter.unusedVariables false

def cnt (n : Nat) (l : Array Bool) : Nat := ((List.range n).filter fun j => !l.getD j true).length
theorem cnt_succ (n : Nat) (l : Array Bool) : cnt (n + 1) l = cnt n l + (if l.getD n true = false then 1 else 0) := by
  unfold cnt
  rw [List.range_succ, List.filter_append, List.length_append]
  congr 1
  cases h : l.getD n true with
  | true => rw [List.filter_cons_of_neg (by rw [h]; decide)]; rfl
  | false => rw [List.filter_cons_of_pos (by rw [h]; rfl)]; rfl
theorem getD_set (l : Array Bool) (i j : Nat) : (l.setIfInBounds i true).getD j true = if j = i then true else l.getD j true := by
  simp only [Array.getD_eq_getD_getElem?, Array.getElem?_setIfInBounds]
  by_cases h : i = j
  · subst h
    rw [if_pos rfl, if_pos rfl]
    split <;> rfl
  · rw [if_neg h, if_neg (fun e => h e.symm)]
theorem cnt_far (l : Array Bool) (i : Nat) : ∀ n, n ≤ i → cnt n (l.setIfInBounds i true) = cnt n l
  | 0, _ => rfl
  | n + 1, h => by
    have hne : ¬ n = i := by omega
    rw [cnt_succ, cnt_succ, cnt_far l i n (by omega), getD_set, if_neg hne]
theorem cnt_set (l : Array Bool) (i : Nat) (h : l.getD i true = false) : ∀ n, i < n → cnt n (l.setIfInBounds i true) + 1 = cnt n l
  | 0, hn => by omega
  | n + 1, hn => by
    rw [cnt_succ, cnt_succ, getD_set]
    by_cases e : i = n
    · subst e
      rw [cnt_far l i i (Nat.le_refl _), if_pos rfl, if_pos h]
      rfl
    · have := cnt_set l i h n (by omega)
      have hne : ¬ n = i := fun e' => e e'.symm
      rw [if_neg hne]
      omega
theorem cnt_zero {n : Nat} {l : Array Bool} (h : cnt n l = 0) : ∀ j, j < n → l.getD j true = true := by
  intro j hj
  unfold cnt at h
  have h2 := List.length_eq_zero_iff.1 h
  rw [List.filter_eq_nil_iff] at h2
  have := h2 j (List.mem_range.2 hj)
  simpa using this
theorem cnt_start (n : Nat) : cnt n (Array.replicate n false) ≤ n := by
  unfold cnt
  refine Nat.le_trans (List.length_filter_le _ _) ?_
  simp
theorem ready_mem {md : Region.Mode} {ops : Array Oper} {listed : Array Bool} {i : Nat} (h : i ∈ Region.ready md ops listed) : i < ops.size ∧ listed.getD i true = false ∧ ∃ o, ops[i]? = some o ∧ ∀ e ∈ o.after, Region.binds md e = true → listed.getD e.on false = true := by
  unfold Region.ready at h
  rw [List.mem_filter, List.mem_range] at h
  obtain ⟨h1, h2⟩ := h
  rw [Bool.and_eq_true] at h2
  refine ⟨h1, by simpa using h2.1, ?_⟩
  cases ho : ops[i]? with
  | none => rw [ho] at h2; simp at h2
  | some o =>
    refine ⟨o, rfl, ?_⟩
    rw [ho] at h2
    have h3 := h2.2
    simp only [Option.map_some, Option.getD_some, Array.all_eq_true] at h3
    intro e he hb
    obtain ⟨k, hk, rfl⟩ := Array.mem_iff_getElem.1 he
    have := h3 k hk
    rw [hb] at this
    simpa using this

theorem wp_region_inv {P : Program} {ops : Array Oper} {Q : Exit → Act → World → Prop} {id : Nat} {a : Act} {w : World} (hm : P.follows .mixedOrders = true) (I : Array Bool → Act → World → Prop)
    (h0 : I (Array.replicate ops.size false) a { w with drawn := w.drawn + 1 })
    (hs : ∀ listed a w i, I listed a w → i ∈ Region.ready .any ops listed → wpOp P ops Q i (I (listed.setIfInBounds i true)) a w)
    (he : ∀ listed a w, I listed a w → Region.ready .any ops listed = [] → Q .normal a w) : (Code.region id ops true).wp P Q a w := by
  refine wp_region_any hm ?_
  have key : ∀ (fuel : Nat) (listed : Array Bool) (a : Act) (w : World), cnt ops.size listed ≤ fuel → I listed a w → wpAny P .any ops Q fuel listed a w := by
    intro fuel
    induction fuel with
    | zero =>
      intro listed a w hc hI
      have hr : Region.ready .any ops listed = [] := by
        rw [List.eq_nil_iff_forall_not_mem]
        intro i hi
        obtain ⟨h1, h2, -⟩ := ready_mem hi
        have := cnt_zero (show cnt ops.size listed = 0 by omega) i h1
        rw [this] at h2
        cases h2
      exact ⟨hr, he listed a w hI hr⟩
    | succ fuel ih =>
      intro listed a w hc hI
      refine ⟨fun hr => he listed a w hI hr, fun i hi => ?_⟩
      obtain ⟨h1, h2, -⟩ := ready_mem hi
      have := cnt_set listed i h2 ops.size h1
      exact wpOp_mono (fun a' w' h' => ih _ a' w' (by omega) h') (hs listed a w i hI hi)
  exact key _ _ _ _ (cnt_start _) h0

end Go.Proofs.YtlhbgkaknfhlnaaGreat

/-
  A region that draws its order, by one invariant on which operations are done: the operation's own step as a list of one operation.
-/
namespace Go.Proofs.YtlhbgkaknfhlnaaGreat
set_option linter.unusedVariables false

theorem wpOp_list {P : Program} {ops : Array Oper} {Q : Exit → Act → World → Prop} {i : Nat} {o : Oper} {K : Act → World → Prop} {a : Act} {w : World} (ho : ops[i]? = some o)
    (h : ∀ Q' : Exit → Act → World → Prop, (∀ a w, K a w → Q' .normal a w) → (∀ e a w, e ≠ .normal → Q e a w → Q' e a w) → wpList P ops Q' [o] a w) : wpOp P ops Q i K a w := by
  have h1 := h (fun e a w => (e = .normal ∧ K a w) ∨ (e ≠ .normal ∧ Q e a w)) (fun a w hk => .inl ⟨rfl, hk⟩) (fun e a w he hq => .inr ⟨he, hq⟩)
  unfold wpOp
  rw [ho]
  unfold wpList at h1
  have hn : ∀ a w, wpList P ops (fun e a w => (e = .normal ∧ K a w) ∨ (e ≠ .normal ∧ Q e a w)) [] a w → K a w := by
    intro a w hh
    rcases hh with ⟨-, hk⟩ | ⟨hne, -⟩
    · exact hk
    · exact absurd rfl hne
  have hl : LetsOut (fun e a w => (e = .normal ∧ K a w) ∨ (e ≠ .normal ∧ Q e a w)) → LetsOut Q := by
    rintro ⟨a, w, hh⟩
    rcases hh with ⟨he, -⟩ | ⟨-, hq⟩
    · cases he
    · exact ⟨a, w, hq⟩
  show if _ then _ else _
  split
  · rename_i hw
    rw [if_pos hw] at h1
    rcases h1 with h1 | ⟨h1, h2⟩
    · refine .inl ?_
      unfold Oper.wp at *
      generalize (execOp a.eval o).run P w = r at *
      cases r with
      | ok n w' =>
        cases n with
        | value v => exact hn _ _ h1
        | skip => exact hn _ _ h1
        | defer d => exact hn _ _ h1
        | enter f args =>
          refine Calls.mono h1 fun e w'' he => ?_
          cases e with
          | returned v => exact hn _ _ he
          | panicked c =>
            rcases he with ⟨he, -⟩ | ⟨-, hq⟩
            · cases he
            · exact hq
          | outgrown => exact hl he
        | row r args => exact Rows.mono h1 fun _ _ he => hn _ _ he
        | _ => exact h1
      | halt x w' =>
        cases x with
        | panic v =>
          rcases h1 with ⟨he, -⟩ | ⟨-, hq⟩
          · cases he
          · exact hq
        | _ => exact h1
    · exact .inr ⟨h1, hl h2⟩
  · rename_i hw
    rw [if_neg hw] at h1
    exact hn _ _ h1

theorem wp_region_flags {P : Program} {ops : Array Oper} {Q : Exit → Act → World → Prop} {id : Nat} {a : Act} {w : World} (hm : P.follows .mixedOrders = true)
    (hord : ∀ (i : Nat) (o : Oper), ops[i]? = some o → ∀ e ∈ o.after, e.on < i) (I : (Nat → Bool) → Act → World → Prop)
    (h0 : I (fun _ => false) a { w with drawn := w.drawn + 1 })
    (hs : ∀ d a w i o, I d a w → d i = false → ops[i]? = some o → (∀ e ∈ o.after, Region.binds .any e = true → d e.on = true) → ∀ Q' : Exit → Act → World → Prop, (∀ a w, I (fun j => j == i || d j) a w → Q' .normal a w) → wpList P ops Q' [o] a w)
    (he : ∀ d a w, I d a w → (∀ i, i < ops.size → d i = true) → Q .normal a w) : (Code.region id ops true).wp P Q a w := by
  refine wp_region_inv hm (fun listed a w => listed.size = ops.size ∧ I (fun j => listed.getD j false) a w) ⟨by simp, ?_⟩ ?_ ?_
  · have : (fun j => (Array.replicate ops.size false).getD j false) = fun _ => false := by
      funext j
      simp only [Array.getD_eq_getD_getElem?, Array.getElem?_replicate]
      split <;> rfl
    rw [this]
    exact h0
  · rintro listed a w i ⟨hsz, hI⟩ hi
    obtain ⟨h1, h2, o, ho, h3⟩ := ready_mem hi
    refine wpOp_list ho fun Q' hk _ => ?_
    refine hs _ a w i o hI ?_ ho h3 Q' fun a w hI' => hk a w ⟨by simp [hsz], ?_⟩
    · have hlt : i < listed.size := by omega
      simpa [Array.getD_eq_getD_getElem?, hlt] using h2
    · have : (fun j => (listed.setIfInBounds i true).getD j false) = fun j => j == i || listed.getD j false := by
        funext j
        simp only [Array.getD_eq_getD_getElem?, Array.getElem?_setIfInBounds]
        by_cases hj : i = j
        · subst hj
          have hlt : i < listed.size := by omega
          simp [hlt]
        · have : (j == i) = false := by simpa using fun e => hj e.symm
          rw [if_neg hj, this]
          simp
      rw [this]
      exact hI'
  · rintro listed a w ⟨hsz, hI⟩ hr
    refine he _ a w hI ?_
    intro i
    induction i using Nat.strongRecOn with
    | _ i ih =>
      intro hi
      cases hd : listed.getD i false with
      | true => rfl
      | false =>
        exfalso
        have hm' : i ∈ Region.ready .any ops listed := by
          unfold Region.ready
          rw [List.mem_filter, List.mem_range]
          refine ⟨hi, ?_⟩
          have hlt : i < listed.size := by omega
          have e1 : listed.getD i true = false := by
            simpa [Array.getD_eq_getD_getElem?, hlt] using hd
          rw [e1]
          obtain ⟨o, ho⟩ : ∃ o, ops[i]? = some o := ⟨ops[i], Array.getElem?_eq_getElem hi⟩
          rw [ho]
          simp only [Option.map_some, Option.getD_some, Bool.not_false, Bool.true_and, Array.all_eq_true]
          intro k hk
          have hlt2 := hord i o ho o.after[k] (Array.getElem_mem hk)
          have := ih o.after[k].on hlt2 (by omega)
          rw [this]
          simp
        rw [hr] at hm'
        cases hm'

/-- The check that each operation waits only for ones ahead. -/
theorem ord_of {ops : Array Oper} (h : (ops.toList.zipIdx.all fun x => x.1.after.all fun e => decide (e.on < x.2)) = true) : ∀ (i : Nat) (o : Oper), ops[i]? = some o → ∀ e ∈ o.after, e.on < i := by
  intro i o ho e he
  rw [List.all_eq_true] at h
  have h1 := h (o, i) (by
    rw [List.mem_zipIdx_iff_getElem?]
    simpa using ho)
  rw [Array.all_eq_true] at h1
  obtain ⟨k, hk, rfl⟩ := Array.mem_iff_getElem.1 he
  simpa using h1 k hk

end Go.Proofs.YtlhbgkaknfhlnaaGreat

/-
  check.Check: what it answers.
-/
namespace Go.Proofs.YtlhbgkaknfhlnaaGreat
open Go.RowKit Go.IntWalk Lx Pz
set_option linter.unusedVariables false

abbrev rep0 : Array Value := #[.slice none 0 0, .int .i64 0, .int .i64 0]
/-- What Check answers. -/
def CkP (w : World) (f d : Int) (NM : List Txt) (BS : List Int) (NS : List Nd) (root : Int) (e : Ending) (W' : World) : Prop :=
  (ckE f d NM BS NS root ≠ 0 ∧ e = .returned (.tuple #[.agg rep0, .int .i64 (ckE f d NM BS NS root)]) ∧ Below w.heap.size w W') ∨
  (ckE f d NM BS NS root = 0 ∧ ∃ g, e = .returned (.tuple #[.agg #[.slice (some ⟨g, 0, none⟩) NS.length NS.length, .int .i64 (coR NS), .int .i64 (mxR (dpR BS NS []))], .int .i64 0]) ∧ w.heap.size ≤ g ∧ HasC W' g 40 (spA (spR f d BS NS []).1) ∧ Below w.heap.size w W')

theorem three_of {W : World} {b : Nat} {t : TypeId} {x y z : Value} (h : HasC W b t #[x, y, z]) : W.cell? ⟨b, 0, none⟩ = some x ∧ W.cell? ⟨b, 1, none⟩ = some y ∧ W.cell? ⟨b, 2, none⟩ = some z ∧ W.frozen? ⟨b, 0, none⟩ = false ∧ W.frozen? ⟨b, 1, none⟩ = false ∧ W.frozen? ⟨b, 2, none⟩ = false :=
  ⟨h.cell 0 rfl, h.cell 1 rfl, h.cell 2 rfl, h.frozen 0, h.frozen 1, h.frozen 2⟩
theorem put_three {w w2 : World} {b : Nat} {t : TypeId} {p q r : Value} (h : HasC w2 b t #[p, q, r]) (hB : Below w.heap.size w w2) (hb : w.heap.size ≤ b) (x y z : Value) :
    HasC (((w2.setCell ⟨b, 0, none⟩ x).setCell ⟨b, 1, none⟩ y).setCell ⟨b, 2, none⟩ z) b t #[x, y, z] ∧
    Below w.heap.size w (((w2.setCell ⟨b, 0, none⟩ x).setCell ⟨b, 1, none⟩ y).setCell ⟨b, 2, none⟩ z) :=
  ⟨((h.set 0 x).set 1 y).set 2 z, ((hB.setCell (p := ⟨b, 0, none⟩) hb _).setCell (p := ⟨b, 1, none⟩) hb _).setCell (p := ⟨b, 2, none⟩) hb _⟩
theorem other_three {W : World} {b r : Nat} {t : TypeId} {cs : Array Value} (h : HasC W b t cs) (hr : b ≠ r) (x y z : Value) : HasC (((W.setCell ⟨r, 0, none⟩ x).setCell ⟨r, 1, none⟩ y).setCell ⟨r, 2, none⟩ z) b t cs :=
  ((h.other (p := ⟨r, 0, none⟩) hr x).other (p := ⟨r, 1, none⟩) hr y).other (p := ⟨r, 2, none⟩) hr z

theorem ck_may {f d : Int} {NM : List Txt} {BS : List Int} {NS : List Nd} {root : Int} (h : mayE f d NM BS NS root ≠ 0) : ckE f d NM BS NS root = mayE f d NM BS NS root := by
  unfold mayE at h ⊢
  unfold ckE
  by_cases h1 : ¬ Knd.May f d
  · rw [if_pos h1, if_pos h1]
  · rw [if_neg h1] at h ⊢
    rw [if_neg h1]
    by_cases h2 : chkP NM BS NS root = false
    · rw [if_pos h2, if_pos h2]
    · rw [if_neg h2] at h ⊢
      rw [if_neg h2]
      by_cases h3 : NS.any (ahB f d) = true
      · rw [if_pos h3, if_pos h3]
      · rw [if_neg h3] at h
        exact absurd rfl h
theorem ck_ok {f d : Int} {NM : List Txt} {BS : List Int} {NS : List Nd} {root : Int} (h : mayE f d NM BS NS root = 0) : Knd.May f d ∧ chkP NM BS NS root = true ∧
    ckE f d NM BS NS root = if (spR f d BS NS []).2 ≠ 0 then (spR f d BS NS []).2 else if 200 < coR NS ∨ 24 < mxR (dpR BS NS []) then 14 else 0 := by
  unfold mayE at h
  by_cases h1 : ¬ Knd.May f d
  · rw [if_pos h1] at h; cases h
  · rw [if_neg h1] at h
    by_cases h2 : chkP NM BS NS root = false
    · rw [if_pos h2] at h; cases h
    · rw [if_neg h2] at h
      by_cases h3 : NS.any (ahB f d) = true
      · rw [if_pos h3] at h; cases h
      · refine ⟨Decidable.of_not_not h1, by simpa using h2, ?_⟩
        unfold ckE
        rw [if_neg h1, if_neg h2, if_neg h3]

/-- The region that makes the report: what stands, by which operations are done. -/
structure Cr (V : World) (tb : Nat) (tv : Array Value) (sv dv : Value) (co mx : Int) (D : List Int) (n : Nat) (d : Nat → Bool) (x9 x27 x28 x29 x30 x31 x32 x33 x34 : Value) (w : World) : Prop where
  bel : Below V.heap.size V w
  m0 : d 0 = true → x27 = sv
  m1 : d 1 = true → x28 = .pointer (some ⟨tb, 2, none⟩)
  m2 : d 2 = true → x29 = dv
  m3 : d 3 = true → x30 = .int .i64 co
  m4 : d 4 = true → x31 = .agg tv
  m5 : d 5 = true → d 9 = false → ∃ gd, x32 = .slice (some ⟨gd, 0, none⟩) n n ∧ HasC w gd 3 (inA D)
  m6 : d 6 = true → x33 = .int .i64 mx
  m7 : d 7 = true → x34 = .agg #[sv, .int .i64 co, .int .i64 mx]
  m8 : d 8 = true → d 9 = false → ∃ gr, x9 = .pointer (some ⟨gr, 0, none⟩) ∧ V.heap.size ≤ gr ∧ HasC w gr 30 rep0
  m9 : d 9 = true → ∃ gr, x9 = .pointer (some ⟨gr, 0, none⟩) ∧ V.heap.size ≤ gr ∧ HasC w gr 30 #[sv, .int .i64 co, .int .i64 mx]
  ph : d 9 = true → ∀ j, j < 9 → d j = true
theorem or_tt {a b : Bool} (h : b = true) : (a || b) = true := by rw [h]; simp
theorem mixedE : Tryz.prog.follows .mixedOrders = true := by kernel_rfl

set_option maxRecDepth 100000 in
set_option maxHeartbeats 8000000 in
theorem ccheck_any (f d : Int) {W : World} {na ba da : Option Addr} {nl nc bl bc dl dc : Nat} {root : Int} {NM : List Txt} {BS : List Int} {NS : List Nd} (hX : Tx W na nl nc NM) (hB : Iz W ba bl bc BS) (hN : Nz W da dl dc NS) (hs : ∀ s ∈ NM, s.length ≤ 9223372036854775807) :
    Calls Tryz.prog 12 #[.agg (kdA f d), .agg (tr4 (.slice na nl nc) (.slice ba bl bc) (.slice da dl dc) (.int .i64 root))] W (CkP W f d NM BS NS root) := by
  have hb1 := bel1 W (.cells (kdA f d) 23)
  have hb2 := bel hb1 (bel1 (W.alloc (.cells (kdA f d) 23)) (.cells (tr4 (.slice na nl nc) (.slice ba bl bc) (.slice da dl dc) (.int .i64 root)) 46))
  have hb3 := bel hb2 (bel1 ((W.alloc (.cells (kdA f d) 23)).alloc (.cells (tr4 (.slice na nl nc) (.slice ba bl bc) (.slice da dl dc) (.int .i64 root)) 46)) (.cells rep0 30))
  have HK0 := hide (((HasC.new W 23 (kdA f d)).alloc (.cells (tr4 (.slice na nl nc) (.slice ba bl bc) (.slice da dl dc) (.int .i64 root)) 46)).alloc (.cells rep0 30))
  have HT0 : Hid (HasC (((W.alloc (.cells (kdA f d) 23)).alloc (.cells (tr4 (.slice na nl nc) (.slice ba bl bc) (.slice da dl dc) (.int .i64 root)) 46)).alloc (.cells rep0 30)) (W.heap.size + 1) 46 (tr4 (.slice na nl nc) (.slice ba bl bc) (.slice da dl dc) (.int .i64 root))) := by
    have := (HasC.new (W.alloc (.cells (kdA f d) 23)) 46 (tr4 (.slice na nl nc) (.slice ba bl bc) (.slice da dl dc) (.int .i64 root))).alloc (.cells rep0 30)
    simp only [World.size_alloc] at this
    exact hide this
  have HR0 : Hid (HasC (((W.alloc (.cells (kdA f d) 23)).alloc (.cells (tr4 (.slice na nl nc) (.slice ba bl bc) (.slice da dl dc) (.int .i64 root)) 46)).alloc (.cells rep0 30)) (W.heap.size + 1 + 1) 30 rep0) := by
    have := HasC.new ((W.alloc (.cells (kdA f d) 23)).alloc (.cells (tr4 (.slice na nl nc) (.slice ba bl bc) (.slice da dl dc) (.int .i64 root)) 46)) 30 rep0
    simp only [World.size_alloc] at this
    exact hide this
  have HX := hide (hX.later hb3)
  have HBI := hide (hB.later hb3)
  have HNI := hide (hN.later hb3)
  have HLN := hide hN.len
  have HB0 := hide hb3
  have HM := hide (emay_any f d (root := root) (hX.later hb3) (hB.later hb3) (hN.later hb3) hs)
  clear hX hB hN hb1 hb2 hb3 hs
  go_enter Tryz.func12, Tryz.ntmps12
  go_wp2_with fail
  refine HM.out.mono ?_
  rintro e V1 ⟨rfl, hb⟩
  have HR1 := hide (HR0.out.below hb)
  have HB1 := hide (bel HB0.out hb)
  by_cases hm : mayE f d NM BS NS root = 0
  · obtain ⟨m1, m2, m3⟩ := ck_ok hm
    obtain ⟨es, ex, hD⟩ := chk_dec.1 m2
    have hfew : dl ≤ 1024 := by rw [← HLN.out]; exact hD.few
    have h1 : 1 ≤ dl := by rw [← HLN.out, hD.nodes, List.length_append, E.flat_len]; have := ex.size_pos; omega
    have HK1 := hide (HK0.out.below hb)
    have HT1 := hide (HT0.out.below hb)
    have HNI1 := hide (HNI.out.later hb)
    have HBI1 := hide (HBI.out.later hb)
    have HW := hide hD.wl
    have HM3 := hide m3
    have HSp := hide (spansOf_any f d ⟨na, nl, nc, rfl⟩ (root := root) m1 (HBI.out.later hb) (HNI.out.later hb) hD.wl hfew)
    obtain ⟨k0, k1, -, -⟩ := two_of HK1.out
    obtain ⟨t0, t1, t2, t3⟩ : V1.cell? ⟨W.heap.size + 1, 0, none⟩ = some (.slice na nl nc) ∧ V1.cell? ⟨W.heap.size + 1, 1, none⟩ = some (.slice ba bl bc) ∧ V1.cell? ⟨W.heap.size + 1, 2, none⟩ = some (.slice da dl dc) ∧ V1.cell? ⟨W.heap.size + 1, 3, none⟩ = some (.int .i64 root) := ⟨HT1.out.cell 0 rfl, HT1.out.cell 1 rfl, HT1.out.cell 2 rfl, HT1.out.cell 3 rfl⟩
    rw [hm]
    clear hm hb m1 m2 m3 hD HM HK0 HT0 HR0 HB0 HX HBI HNI
    go_wp2_with fail
    refine HSp.out.mono ?_
    rintro e V2 (⟨hz, rfl, hb⟩ | ⟨hz, gs, rfl, hgs, hG, hb⟩)
    · have hne : ((spR f d BS NS []).2 != 0) = true := by simpa using hz
      have HF : Hid (ckE f d NM BS NS root = (spR f d BS NS []).2) := hide (by rw [HM3.out, if_pos hz])
      have HR2 := hide (HR1.out.below hb)
      have HB2 := hide (bel HB1.out hb)
      have HZ := hide hz
      obtain ⟨r0, r1, r2, r3, r4, r5⟩ := three_of HR2.out
      clear hb hz HM3
      generalize (spR f d BS NS []).2 = er at *
      go_wp2_with fail
      obtain ⟨hp, hpb⟩ := put_three HR2.out HB2.out (by omega) (.slice none 0 0) (.int .i64 0) (.int .i64 0)
      have p0 := hp.cell 0 rfl
      have p1 := hp.cell 1 rfl
      have p2 := hp.cell 2 rfl
      exact bodyPost_ret (v := .tuple #[.agg rep0, .int .i64 er]) (by simp [results, Tryz.results12, go_sem, p0, p1, p2]) rfl (.inl (by rw [HF.out]; exact ⟨HZ.out, rfl, hpb⟩))
    · have HF : Hid (ckE f d NM BS NS root = if 200 < coR NS ∨ 24 < mxR (dpR BS NS []) then 14 else 0) := hide (by rw [HM3.out, if_neg (by simpa using hz)])
      have HR2 := hide (HR1.out.below hb)
      have HB2 := hide (bel HB1.out hb)
      have HT2 := hide (HT1.out.below hb)
      have HN2 := hide (HNI1.out.later hb)
      have HI2 := hide (HBI1.out.later hb)
      have HG2 := hide hG
      have hgz := hG.lt
      obtain ⟨t0, t1, t2, t3⟩ : V2.cell? ⟨W.heap.size + 1, 0, none⟩ = some (.slice na nl nc) ∧ V2.cell? ⟨W.heap.size + 1, 1, none⟩ = some (.slice ba bl bc) ∧ V2.cell? ⟨W.heap.size + 1, 2, none⟩ = some (.slice da dl dc) ∧ V2.cell? ⟨W.heap.size + 1, 3, none⟩ = some (.int .i64 root) := ⟨HT2.out.cell 0 rfl, HT2.out.cell 1 rfl, HT2.out.cell 2 rfl, HT2.out.cell 3 rfl⟩
      have hDl : (dpR BS NS []).length = dl := by rw [dpR_len, HLN.out]; simp
      have HDb := hide (Db.all (BS := BS) (A := NS) (D := []) (fun x hx => by simp at hx) HW.out)
      have HGs := hide hgs
      have HR1s := hide HR1.out.lt
      obtain ⟨co, hco⟩ : ∃ co, coR NS = co := ⟨_, rfl⟩
      obtain ⟨D, hD⟩ : ∃ D, dpR BS NS [] = D := ⟨_, rfl⟩
      obtain ⟨mx, hmx⟩ : ∃ mx, mxR D = mx := ⟨_, rfl⟩
      obtain ⟨SS, hSS⟩ : ∃ SS, (spR f d BS NS []).1 = SS := ⟨_, rfl⟩
      rw [hD] at HDb hDl HF
      rw [hco, hmx] at HF
      rw [hSS] at HG2
      have HCo := hide hco
      have HD := hide hD
      have HMx := hide hmx
      have HSS := hide hSS
      have HDl := hide hDl
      clear hb hG hz HM3 hDl HR1 HB1 HT1 HNI1 HBI1 HSp hgs k0 k1 hco hD hmx hSS
      go_wp2_with fail
      refine wp_region_flags mixedE (ord_of (by kernel_rfl)) (fun dd a w => ∃ x9 x27 x28 x29 x30 x31 x32 x33 x34, a = ⟨#[.agg (kdA f d), .agg (tr4 (.slice na nl nc) (.slice ba bl bc) (.slice da dl dc) (.int .i64 root)), .pointer (some ⟨W.heap.size, 0, none⟩), .pointer (some ⟨W.heap.size + 1, 0, none⟩), .pointer (some ⟨W.heap.size + 1 + 1, 0, none⟩), .int .i64 0, .int .i64 0, .slice (some ⟨gs, 0, none⟩) dl dl, .int .i64 0, x9, .agg #[.int .i64 f, .int .i64 d], .agg #[.slice na nl nc, .slice ba bl bc, .slice da dl dc, .int .i64 root], .int .i64 0, .int .i64 0, .bool false, undef, undef, .tuple #[.slice (some ⟨gs, 0, none⟩) dl dl, .int .i64 0], .agg #[.int .i64 f, .int .i64 d], .agg #[.slice na nl nc, .slice ba bl bc, .slice da dl dc, .int .i64 root], .tuple #[.slice (some ⟨gs, 0, none⟩) dl dl, .int .i64 0], .slice (some ⟨gs, 0, none⟩) dl dl, .int .i64 0, .int .i64 0, .bool false, undef, undef, x27, x28, x29, x30, x31, x32, x33, x34, undef, undef, undef, undef, undef, undef, undef, undef, undef, undef], []⟩ ∧ Cr V2 (W.heap.size + 1) (tr4 (.slice na nl nc) (.slice ba bl bc) (.slice da dl dc) (.int .i64 root)) (.slice (some ⟨gs, 0, none⟩) dl dl) (.slice da dl dc) co mx D dl dd x9 x27 x28 x29 x30 x31 x32 x33 x34 w) ?_ ?_ ?_
      · refine ⟨_, _, _, _, _, _, _, _, _, rfl, below_drew V2, ?_, ?_, ?_, ?_, ?_, ?_, ?_, ?_, ?_, ?_, ?_⟩
        all_goals intro h; cases h
      · rintro dd a w i o ⟨x9, x27, x28, x29, x30, x31, x32, x33, x34, rfl, C⟩ hdi ho haft Q' hk'
        have HK := hide hk'
        clear hk'
        have hi : i < 10 := (Array.getElem?_eq_some_iff.1 ho).1
        match i, hi with
        | 0, _ =>
          obtain rfl := (Option.some.inj ho)
          have nope : dd 9 = true → False := fun h => by have h2 := C.ph h 0 (by decide); rw [hdi] at h2; cases h2
          clear haft ho
          go_wp2
          exact HK.out _ _ ⟨_, _, _, _, _, _, _, _, _, rfl, ⟨C.bel, (fun _ => rfl), C.m1, C.m2, C.m3, C.m4, C.m5, C.m6, C.m7, C.m8, (fun h => (nope h).elim), (fun h => (nope h).elim)⟩⟩
        | 1, _ =>
          obtain rfl := (Option.some.inj ho)
          have nope : dd 9 = true → False := fun h => by have h2 := C.ph h 1 (by decide); rw [hdi] at h2; cases h2
          clear haft ho
          go_wp2
          exact HK.out _ _ ⟨_, _, _, _, _, _, _, _, _, rfl, ⟨C.bel, C.m0, (fun _ => rfl), C.m2, C.m3, C.m4, C.m5, C.m6, C.m7, C.m8, (fun h => (nope h).elim), (fun h => (nope h).elim)⟩⟩
        | 2, _ =>
          obtain rfl := (Option.some.inj ho)
          have nope : dd 9 = true → False := fun h => by have h2 := C.ph h 2 (by decide); rw [hdi] at h2; cases h2
          have g1 : dd 1 = true := haft ⟨1, .data⟩ (by simp) rfl
          clear haft ho
          have e1 := C.m1 g1
          subst e1
          have t2 := (HT2.out.below C.bel).cell 2 rfl
          have C := hide C
          go_wp2
          have C := C.out
          exact HK.out _ _ ⟨_, _, _, _, _, _, _, _, _, rfl, ⟨C.bel, C.m0, C.m1, (fun _ => rfl), C.m3, C.m4, C.m5, C.m6, C.m7, C.m8, (fun h => (nope h).elim), (fun h => (nope h).elim)⟩⟩
        | 3, _ =>
          obtain rfl := (Option.some.inj ho)
          have nope : dd 9 = true → False := fun h => by have h2 := C.ph h 3 (by decide); rw [hdi] at h2; cases h2
          have g2 : dd 2 = true := haft ⟨2, .data⟩ (by simp) rfl
          clear haft ho
          have e1 := C.m2 g2
          subst e1
          have HQ := hide (costOf_any (HN2.out.later C.bel) hfew)
          rw [HCo.out] at HQ
          have C := hide C
          go_wp2_with fail
          refine HQ.out.mono ?_
          rintro e w' ⟨rfl, hw⟩
          go_wp2
          have C := C.out
          have hb := bel C.bel hw
          exact HK.out _ _ ⟨_, _, _, _, _, _, _, _, _, rfl, ⟨hb, C.m0, C.m1, C.m2, (fun _ => rfl), C.m4, (fun h h2 => let ⟨g, e, r⟩ := C.m5 h h2; ⟨g, e, r.below hw⟩), C.m6, C.m7, (fun h h2 => let ⟨g, e, e2, r⟩ := C.m8 h h2; ⟨g, e, e2, r.below hw⟩), (fun h => (nope h).elim), (fun h => (nope h).elim)⟩⟩
        | 4, _ =>
          obtain rfl := (Option.some.inj ho)
          have nope : dd 9 = true → False := fun h => by have h2 := C.ph h 4 (by decide); rw [hdi] at h2; cases h2
          clear haft ho
          obtain ⟨t0, t1, t2, t3⟩ : w.cell? ⟨W.heap.size + 1, 0, none⟩ = some (.slice na nl nc) ∧ w.cell? ⟨W.heap.size + 1, 1, none⟩ = some (.slice ba bl bc) ∧ w.cell? ⟨W.heap.size + 1, 2, none⟩ = some (.slice da dl dc) ∧ w.cell? ⟨W.heap.size + 1, 3, none⟩ = some (.int .i64 root) := ⟨(HT2.out.below C.bel).cell 0 rfl, (HT2.out.below C.bel).cell 1 rfl, (HT2.out.below C.bel).cell 2 rfl, (HT2.out.below C.bel).cell 3 rfl⟩
          have C := hide C
          go_wp2
          have C := C.out
          exact HK.out _ _ ⟨_, _, _, _, _, _, _, _, _, rfl, ⟨C.bel, C.m0, C.m1, C.m2, C.m3, (fun _ => rfl), C.m5, C.m6, C.m7, C.m8, (fun h => (nope h).elim), (fun h => (nope h).elim)⟩⟩
        | 5, _ =>
          obtain rfl := (Option.some.inj ho)
          have nope : dd 9 = true → False := fun h => by have h2 := C.ph h 5 (by decide); rw [hdi] at h2; cases h2
          have g4 : dd 4 = true := haft ⟨4, .data⟩ (by simp) rfl
          have g3 : dd 3 = true := haft ⟨3, .chain⟩ (by simp) rfl
          clear haft ho
          have e1 := C.m4 g4
          subst e1
          have HQ := hide (depthsOf_any ⟨na, nl, nc, rfl⟩ (root := root) (HI2.out.later C.bel) (HN2.out.later C.bel) HW.out hfew)
          rw [HD.out] at HQ
          have C := hide C
          go_wp2_with fail
          refine HQ.out.mono ?_
          rintro e w' ⟨gd, rfl, hG, hw⟩
          go_wp2
          have C := C.out
          have hb := bel C.bel hw
          exact HK.out _ _ ⟨_, _, _, _, _, _, _, _, _, rfl, ⟨hb, C.m0, C.m1, C.m2, C.m3, C.m4, (fun _ _ => ⟨gd, rfl, hG⟩), C.m6, C.m7, (fun h h2 => let ⟨g, e, e2, r⟩ := C.m8 h h2; ⟨g, e, e2, r.below hw⟩), (fun h => (nope h).elim), (fun h => (nope h).elim)⟩⟩
        | 6, _ =>
          obtain rfl := (Option.some.inj ho)
          have nope : dd 9 = true → False := fun h => by have h2 := C.ph h 6 (by decide); rw [hdi] at h2; cases h2
          have g5 : dd 5 = true := haft ⟨5, .data⟩ (by simp) rfl
          clear haft ho
          have h9 : dd 9 = false := by cases h : dd 9 with | false => rfl | true => exact (nope h).elim
          obtain ⟨gd, e1, hG⟩ := C.m5 g5 h9
          subst e1
          have HQ := hide (smax_any (D := D) (by have h := has_iz hG (by rw [HDl.out]; exact hfew); rw [HDl.out] at h; exact h) h1 (fun x hx => (HDb.out x hx).1))
          rw [HMx.out] at HQ
          clear hG h9
          have C := hide C
          go_wp2_with fail
          refine HQ.out.mono ?_
          rintro e w' ⟨rfl, rfl⟩
          go_wp2
          have C := C.out
          exact HK.out _ _ ⟨_, _, _, _, _, _, _, _, _, rfl, ⟨C.bel, C.m0, C.m1, C.m2, C.m3, C.m4, C.m5, (fun _ => rfl), C.m7, C.m8, (fun h => (nope h).elim), (fun h => (nope h).elim)⟩⟩
        | 7, _ =>
          obtain rfl := (Option.some.inj ho)
          have nope : dd 9 = true → False := fun h => by have h2 := C.ph h 7 (by decide); rw [hdi] at h2; cases h2
          have g0 : dd 0 = true := haft ⟨0, .data⟩ (by simp) rfl
          have g3 : dd 3 = true := haft ⟨3, .data⟩ (by simp) rfl
          have g6 : dd 6 = true := haft ⟨6, .data⟩ (by simp) rfl
          clear haft ho
          have e1 := C.m0 g0
          have e2 := C.m3 g3
          have e3 := C.m6 g6
          subst e1 e2 e3
          have C := hide C
          go_wp2
          have C := C.out
          exact HK.out _ _ ⟨_, _, _, _, _, _, _, _, _, rfl, ⟨C.bel, C.m0, C.m1, C.m2, C.m3, C.m4, C.m5, C.m6, (fun _ => rfl), C.m8, (fun h => (nope h).elim), (fun h => (nope h).elim)⟩⟩
        | 8, _ =>
          obtain rfl := (Option.some.inj ho)
          have nope : dd 9 = true → False := fun h => by have h2 := C.ph h 8 (by decide); rw [hdi] at h2; cases h2
          clear haft ho
          have C := hide C
          go_wp2
          have C := C.out
          have hw := bel1 w (.cells rep0 30)
          have hb := bel C.bel hw
          exact HK.out _ _ ⟨_, _, _, _, _, _, _, _, _, rfl, ⟨hb, C.m0, C.m1, C.m2, C.m3, C.m4, (fun h h2 => let ⟨g, e, r⟩ := C.m5 h h2; ⟨g, e, r.below hw⟩), C.m6, C.m7, (fun _ _ => ⟨w.heap.size, rfl, C.bel.size, HasC.new w _ _⟩), (fun h => (nope h).elim), (fun h => (nope h).elim)⟩⟩
        | 9, _ =>
          obtain rfl := (Option.some.inj ho)
          have g8 : dd 8 = true := haft ⟨8, .data⟩ (by simp) rfl
          have g7 : dd 7 = true := haft ⟨7, .data⟩ (by simp) rfl
          have g6 : dd 6 = true := haft ⟨6, .chain⟩ (by simp) rfl
          have g0 : dd 0 = true := haft ⟨0, .phase⟩ (by simp) rfl
          have g1 : dd 1 = true := haft ⟨1, .phase⟩ (by simp) rfl
          have g2 : dd 2 = true := haft ⟨2, .phase⟩ (by simp) rfl
          have g3 : dd 3 = true := haft ⟨3, .phase⟩ (by simp) rfl
          have g4 : dd 4 = true := haft ⟨4, .phase⟩ (by simp) rfl
          have g5 : dd 5 = true := haft ⟨5, .phase⟩ (by simp) rfl
          clear haft ho
          have D9 : ∀ j, j < 9 → dd j = true := fun j hj => match j, hj with | 0, _ => g0 | 1, _ => g1 | 2, _ => g2 | 3, _ => g3 | 4, _ => g4 | 5, _ => g5 | 6, _ => g6 | 7, _ => g7 | 8, _ => g8
          have e1 := C.m7 g7
          obtain ⟨gr, e2, hge, hR⟩ := C.m8 g8 hdi
          subst e1 e2
          obtain ⟨r0, r1, r2, r3, r4, r5⟩ := three_of hR
          obtain ⟨hp, hpb⟩ := put_three (w := V2) hR C.bel hge (.slice (some ⟨gs, 0, none⟩) dl dl) (.int .i64 co) (.int .i64 mx)
          have HP := hide hp
          have HPB := hide hpb
          clear hp hpb hR
          have C := hide C
          go_wp2
          have C := C.out
          exact HK.out _ _ ⟨_, _, _, _, _, _, _, _, _, rfl, ⟨HPB.out, C.m0, C.m1, C.m2, C.m3, C.m4, (fun _ h => by cases h), C.m6, (fun _ => rfl), (fun _ h => by cases h), (fun _ => ⟨gr, rfl, hge, HP.out⟩), (fun _ j hj => or_tt (D9 j hj))⟩⟩
      · rintro dd a w ⟨x9, x27, x28, x29, x30, x31, x32, x33, x34, rfl, C⟩ hall
        have D9 : ∀ i, i < 10 → dd i = true := hall
        obtain ⟨gr, e1, hge, hR⟩ := C.m9 (D9 9 (by omega))
        subst e1
        have HGw := hide (HG2.out.below C.bel)
        have HRw := hide (HR2.out.below C.bel)
        have HBw := hide (bel HB2.out C.bel)
        have hrz := HR2.out.lt
        have HRr := hide hR
        obtain ⟨r0, r1, r2, -, -, -⟩ := three_of hR
        obtain ⟨q0, q1, q2, q3, q4, q5⟩ := three_of HRw.out
        obtain ⟨hp, hpb⟩ := put_three HRw.out HBw.out (by omega) (.slice none 0 0) (.int .i64 0) (.int .i64 0)
        obtain ⟨hq, hqb⟩ := put_three HRw.out HBw.out (by omega) (.slice (some ⟨gs, 0, none⟩) dl dl) (.int .i64 co) (.int .i64 mx)
        have HGq := hide (other_three (r := W.heap.size + 1 + 1) HGw.out (by have := HGs.out; have := HR1s.out; omega) (.slice (some ⟨gs, 0, none⟩) dl dl) (.int .i64 co) (.int .i64 mx))
        have P0 := hide hp
        have PB := hide hpb
        have Q0 := hide hq
        have QB := hide hqb
        clear hp hpb hq hqb hR hall D9 C
        by_cases b1 : 200 < co
        · have HF2 : Hid (ckE f d NM BS NS root = 14) := hide (by rw [HF.out, if_pos (.inl b1)])
          go_wp2_with fail
          have p0 := P0.out.cell 0 rfl
          have p1 := P0.out.cell 1 rfl
          have p2 := P0.out.cell 2 rfl
          exact bodyPost_ret (v := .tuple #[.agg rep0, .int .i64 14]) (by simp [results, Tryz.results12, go_sem, p0, p1, p2]) rfl (.inl (by rw [HF2.out]; exact ⟨by decide, rfl, PB.out⟩))
        · by_cases b2 : 24 < mx
          · have HF2 : Hid (ckE f d NM BS NS root = 14) := hide (by rw [HF.out, if_pos (.inr b2)])
            go_wp2_with fail
            have p0 := P0.out.cell 0 rfl
            have p1 := P0.out.cell 1 rfl
            have p2 := P0.out.cell 2 rfl
            exact bodyPost_ret (v := .tuple #[.agg rep0, .int .i64 14]) (by simp [results, Tryz.results12, go_sem, p0, p1, p2]) rfl (.inl (by rw [HF2.out]; exact ⟨by decide, rfl, PB.out⟩))
          · have HF2 : Hid (ckE f d NM BS NS root = 0) := hide (by rw [HF.out, if_neg (by omega)])
            go_wp2_with fail
            have p0 := Q0.out.cell 0 rfl
            have p1 := Q0.out.cell 1 rfl
            have p2 := Q0.out.cell 2 rfl
            exact bodyPost_ret (v := .tuple #[.agg #[.slice (some ⟨gs, 0, none⟩) dl dl, .int .i64 co, .int .i64 mx], .int .i64 0]) (by simp [results, Tryz.results12, go_sem, p0, p1, p2]) rfl (.inr ⟨HF2.out, gs, by rw [HLN.out, HCo.out, HD.out, HMx.out], by have := HGs.out; have := HR1s.out; omega, by rw [HSS.out]; exact HGq.out, QB.out⟩)
  · have hne : (mayE f d NM BS NS root != 0) = true := by simpa using hm
    have HF := hide (ck_may hm)
    have HE := hide hm
    obtain ⟨r0, r1, r2, r3, r4, r5⟩ := three_of HR1.out
    clear hm hb HM HX HBI HNI HK0 HT0 HR0 HB0
    generalize mayE f d NM BS NS root = er at *
    go_wp2_with fail
    obtain ⟨hp, hpb⟩ := put_three HR1.out HB1.out (by omega) (.slice none 0 0) (.int .i64 0) (.int .i64 0)
    have p0 := hp.cell 0 rfl
    have p1 := hp.cell 1 rfl
    have p2 := hp.cell 2 rfl
    exact bodyPost_ret (v := .tuple #[.agg rep0, .int .i64 er]) (by simp [results, Tryz.results12, go_sem, p0, p1, p2]) rfl (.inl (by rw [HF.out]; exact ⟨HE.out, rfl, hpb⟩))

end Go.Proofs.YtlhbgkaknfhlnaaGreat
