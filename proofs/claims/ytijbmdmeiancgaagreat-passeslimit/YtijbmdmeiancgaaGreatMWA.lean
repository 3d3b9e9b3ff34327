/-
  Orders that may be; the pass of a number.
-/
import Derived.Test.YtijbmdmeiancgaaGreatMCdC
import Derived.Test.YtijbmdmeiancgaaGreatMSpE
import Derived.Laws.EntriesVeiled
namespace Go.Proofs.Pss
open Go.RowKit Go.IntWalk YtijbmdmeiancgaaGreat.Knd
set_option linter.unusedVariables false

/-- An order that may be. -/
def okP (P : List Int) : Bool := decide (P.length ≤ 16) && P.all fun p => decide (1 ≤ p) && decide (p ≤ 4)
theorem okP_all {P : List Int} (h : okP P = true) : P.length ≤ 16 ∧ ∀ p ∈ P, 1 ≤ p ∧ p ≤ 4 := by
  simp only [okP, Bool.and_eq_true, decide_eq_true_eq, List.all_eq_true] at h
  exact h
theorem okP_of {P : List Int} (h1 : P.length ≤ 16) (h2 : ∀ p ∈ P, 1 ≤ p ∧ p ≤ 4) : okP P = true := by
  simp only [okP, Bool.and_eq_true, decide_eq_true_eq, List.all_eq_true]
  exact ⟨h1, h2⟩
theorem okP_long {P : List Int} (h : 16 < P.length) : okP P = false := by
  rw [okP, decide_eq_false (by omega : ¬ P.length ≤ 16)]; rfl
theorem okP_odd {P : List Int} {p : Int} (hp : p ∈ P) (h : ¬ (1 ≤ p ∧ p ≤ 4)) : okP P = false := by
  cases e : okP P
  · rfl
  · exact absurd ((okP_all e).2 p hp) h
/-- The pass of a number. -/
def fnP (p : Int) : Nat := if p = 1 then 74 else if p = 2 then 75 else if p = 3 then 76 else 77

end Go.Proofs.Pss

/-
  passes.list, the closure of inRow, slices.IndexFunc over the list, inRow.
-/
namespace Go.Proofs.Pss
open Go.RowKit Go.IntWalk YtijbmdmeiancgaaGreat.Knd
open Cde (In i0 ia kd cd Ins is6 two_of has_new1)
set_option linter.unusedVariables false

/-- A pass in memory, by its number. -/
abbrev fnV (p : Int) : Value := .func (.func (fnP p)) #[] #[]
abbrev p2 (p : Int) : List Value := [.int .i64 p, fnV p]
def ps2 (P : List Int) : List Value := P.flatMap p2
theorem ps2_len (P : List Int) : (ps2 P).length = P.length * 2 := by
  induction P with
  | nil => rfl
  | cons p P ih => simp [ps2, List.flatMap_cons] at ih ⊢; omega
theorem ps2_snoc (P : List Int) (p : Int) : ps2 (P ++ [p]) = ps2 P ++ p2 p := by simp [ps2]
/-- The four passes in memory. -/
abbrev knA : Array Value := #[.int .i64 1, .func (.func 74) #[] #[], .int .i64 2, .func (.func 75) #[] #[], .int .i64 3, .func (.func 76) #[] #[], .int .i64 4, .func (.func 77) #[] #[]]
theorem kn_at {V : World} {g : Nat} (h : HasC V g 63 knA) {q : Nat} (hq : q < 4) : V.cell? ⟨g, q * 2, none⟩ = some (.int .i64 ((q : Int) + 1)) ∧ V.cell? ⟨g, q * 2 + 1, none⟩ = some (fnV ((q : Int) + 1)) := by
  match q, hq with
  | 0, _ => exact ⟨h.cell 0 rfl, h.cell 1 rfl⟩
  | 1, _ => exact ⟨h.cell 2 rfl, h.cell 3 rfl⟩
  | 2, _ => exact ⟨h.cell 4 rfl, h.cell 5 rfl⟩
  | 3, _ => exact ⟨h.cell 6 rfl, h.cell 7 rfl⟩

set_option maxRecDepth 100000 in
set_option maxHeartbeats 1000000 in
theorem zlist_any (W : World) : Calls Tryz.prog 41 #[] W fun e W' => e = .returned (.slice (some ⟨W.heap.size, 0, none⟩) 4 4) ∧ W' = W.alloc (.cells knA 63) := by
  go_enter Tryz.func41, Tryz.ntmps41
  go_wp2_with fail
  go_ret
  exact ⟨rfl, rfl⟩

set_option maxRecDepth 100000 in
set_option maxHeartbeats 1000000 in
theorem zpred_any (x p : Int) (v : Value) {nb : Nat} {V : World} (h : HasC V nb 3 #[.int .i64 p]) :
    Calls Tryz.prog 43 #[.agg #[.int .i64 x, v], .pointer (some ⟨nb, 0, none⟩)] V fun e V' => e = .returned (.bool (x == p)) ∧ Below V.heap.size V V' := by
  have hb := bel1 V (.cells #[.int .i64 x, v] 63)
  have h0 := (h.below hb).cell 0 rfl
  have HB := hide hb
  clear hb
  go_enter Tryz.func43, Tryz.ntmps43
  go_wp2_with fail
  go_ret
  exact ⟨rfl, HB.out⟩

/-- Where a number stands among the passes. -/
def ixP (p : Int) : Int := if 1 ≤ p ∧ p ≤ 4 then p - 1 else -1

set_option maxRecDepth 100000 in
set_option maxHeartbeats 4000000 in
theorem zindex_any (p : Int) {g nb : Nat} {V : World} (hk : HasC V g 63 knA) (hn : HasC V nb 3 #[.int .i64 p]) :
    Calls Tryz.prog 42 #[.slice (some ⟨g, 0, none⟩) 4 4, .func (.func 43) #[] #[.pointer (some ⟨nb, 0, none⟩)]] V fun e V' => e = .returned (.int .i64 (ixP p)) ∧ Below V.heap.size V V' := by
  have HK := hide hk
  have HN := hide hn
  have HB0 := hide (Below.refl V.heap.size V)
  clear hk hn
  go_enter Tryz.func42, Tryz.ntmps42
  go_wp2_with fail
  go_loopw [8] (fun iv wr => ∃ k : Nat, k ≤ 4 ∧ iv = .int .i64 k ∧ (∀ j : Nat, j < k → p ≠ (j : Int) + 1) ∧ Hid (Below V.heap.size V wr)) (fun iv _ => 4 - (intOf iv).toNat)
  case atStart => exact ⟨0, by omega, rfl, fun j hj => by omega, HB0⟩
  case round =>
    obtain ⟨k, hk, rfl, hno, HB⟩ := hrel
    rename World => V1
    clear HB0
    by_cases hlt : k < 4
    · obtain ⟨c0, c1⟩ := kn_at (HK.out.below HB.out) hlt
      have j1 : (k : Int) < 4 := by omega
      have j0 : (0 : Int) ≤ k := by omega
      have HP := hide (zpred_any ((k : Int) + 1) p (fnV ((k : Int) + 1)) (HN.out.below HB.out))
      go_wp2_with fail
      refine HP.out.mono ?_
      rintro e V2 ⟨rfl, hb⟩
      have HB2 := hide (bel HB.out hb)
      clear hb c0 c1 HP HB
      by_cases he : (k : Int) + 1 = p
      · have hr : ((k : Int) + 1 == p) = true := by simpa using he
        go_wp2_with fail
        go_ret
        exact ⟨by rw [ixP, if_pos ⟨by omega, by omega⟩]; simp; omega, HB2.out⟩
      · have hr : ((k : Int) + 1 == p) = false := by simpa using he
        go_wp2_with fail
        go_roundw
        case rel => exact ⟨k + 1, by omega, by go_num, fun j hj => by
          by_cases hjk : j < k
          · exact hno j hjk
          · obtain rfl : j = k := by omega
            exact fun e => he e.symm, HB2⟩
        case measure => simp [intOf]; omega
    · obtain rfl : k = 4 := by omega
      go_wp2_with fail
      go_ret
      exact ⟨by rw [ixP, if_neg (fun h => hno (p - 1).toNat (by omega) (by omega))]; rfl, HB.out⟩

end Go.Proofs.Pss

/-
  passes.inRow: the passes of an order, or that it may not be.
-/
namespace Go.Proofs.Pss
open Go.RowKit Go.IntWalk YtijbmdmeiancgaaGreat.Knd
open Cde (In i0 ia kd cd Ins is6 two_of has_new1)
set_option linter.unusedVariables false

theorem infoP : (Tryz.prog.info? 63).map (fun i => (i.zero, i.size, i.bytes)) = some (some (.agg #[.int .i64 0, .nilFunc]), 2, 16) := by kernel_rfl
theorem news_p {W : World} {b : Nat} {p : Int} (h : HasC W b 63 #[.int .i64 p, fnV p]) : ∀ j u, (p2 p)[j]? = some u → W.cell? ((⟨b, 0, none⟩ : Addr).add j) = some u := by
  intro j u hu
  rw [Addr.add_lit, Nat.zero_add]
  exact h.cell j (by rw [← hu]; simp [p2])
/-- An append of one pass. -/
theorem ps_list {V : World} {base : Nat} {v : Value} {P : List Int} {n : Nat} (hn : P.length = n) {ops : Array Oper} {rest : List Oper} {o : Oper} {a : Act} {Q : Exit → Act → World → Prop}
    (hgd : o.guard = none) (s x : Operand) (ho : o.op = .call { callee := .builtin .append, args := #[s, x], argTypes := #[58, 58] })
    (hs : a.eval s = v) (hen : V.ownsRow base 63 2 v P.length (ps2 P)) (hbase : base ≤ V.heap.size) (b : Nat) (p : Int) (hx : a.eval x = .slice (some ⟨b, 0, none⟩) 1 1) (hc : HasC V b 63 #[.int .i64 p, fnV p]) (h3 : P.length ≤ 16)
    (h : ∀ g cap w', w'.ownsRow base 63 2 (.slice (some ⟨g, 0, none⟩) (n + 1) cap) (P ++ [p]).length (ps2 (P ++ [p])) → V.grownBy w' v.ownBlock → (v.ownBlock = some g ∨ g = V.heap.size) → wpList Tryz.prog ops Q rest (a.put o.dst (.slice (some ⟨g, 0, none⟩) (n + 1) cap)) w') :
    wpList Tryz.prog ops Q (o :: rest) a V := by
  subst hn
  obtain ⟨i0', hi0, hz0, hz1, hz2⟩ := YtijbmdmeiancgaaGreat.Spn.info_parts infoP
  refine wpList_append_lies V hgd s x 58 ho base 63 i0' _ 2 16 Tryz.underlying58 hi0 hz0 hz1 hz2 rfl (by omega) v P.length (ps2 P) hs hen ⟨b, 0, none⟩ 1 1 (p2 p) hx rfl (news_p hc) (by simp [Value.oneCell', p2]) (by omega) (by unfold maxLen; omega) (by omega) hbase V.heap.size rfl ?_
  intro g cap w' hown hgrow hat hlt
  refine h g cap w' ?_ hgrow hat
  rw [ps2_snoc, List.length_append]
  exact hown

/-- What inRow keeps: the list of the passes, the row so far. -/
structure Rw (W V : World) (v : Value) (P : List Int) : Prop where
  k : HasC V W.heap.size 63 knA
  r : V.ownsRow W.heap.size 63 2 v P.length (ps2 P)
  ne : v.ownBlock ≠ some W.heap.size
  lo : Below W.heap.size W V
theorem Rw.below {W V V' : World} {v : Value} {P : List Int} (h : Rw W V v P) (hb : Below V.heap.size V V') : Rw W V' v P := ⟨h.k.below hb, Cde.own_later h.r hb, h.ne, bel h.lo hb⟩
theorem Rw.grow {W V V' : World} {v v' : Value} {g n c : Nat} {P P' : List Int} (h : Rw W V v P) (hv : v' = .slice (some ⟨g, 0, none⟩) n c) (hg : V.grownBy V' v.ownBlock) (ho : V'.ownsRow W.heap.size 63 2 v' P'.length (ps2 P')) (hat : v.ownBlock = some g ∨ g = V.heap.size) : Rw W V' v' P' :=
  ⟨h.k.kept hg fun he => h.ne he.symm, ho, by
    subst hv
    intro e
    simp [Value.ownBlock] at e
    rcases hat with h1 | h1
    · exact h.ne (e ▸ h1)
    · have := h.k.lt; omega, h.lo.grown hg h.lo.size fun k hk => (Cde.owns_block h.r k hk).1⟩

/-- What inRow answers. -/
def InP (W : World) (P : List Int) (n : Nat) (e : Ending) (W' : World) : Prop :=
  Below W.heap.size W W' ∧ ((okP P = true ∧ ∃ a c, e = .returned (.tuple #[.slice a n c, .bool true]) ∧ W'.ownsRow W.heap.size 63 2 (.slice a n c) n (ps2 P)) ∨ (okP P = false ∧ e = .returned (.tuple #[.slice none 0 0, .bool false])))

set_option maxRecDepth 100000 in
set_option maxHeartbeats 8000000 in
theorem zinrow_any {a : Option Addr} {n cap : Nat} {P : List Int} {W : World} (hP : Ints W a n cap P) :
    Calls Tryz.prog 23 #[.slice a n cap] W (InP W P n) := by
  have hmf : ∀ (fn : Fn) (first cap : Array Value) (w : World), (Instr.makeFunc fn first cap).run Tryz.prog w = .ok (.func fn first cap) w := fun _ _ _ _ => rfl
  have HPI := hide hP
  have HPn := hide hP.len
  have hm := hP.max
  clear hP
  by_cases h16 : 16 < n
  · have j : decide ((16 : Int) < (n : Int)) = true := by simp; omega
    have j' : (16 : Int) < (n : Int) := by omega
    go_enter Tryz.func23, Tryz.ntmps23
    go_wp2_with fail
    go_ret2
    exact ⟨Below.refl _ _, .inr ⟨okP_long (by rw [HPn.out]; exact h16), rfl⟩⟩
  · have j : ¬ (16 : Int) < (n : Int) := by omega
    have HR0 : Hid (Rw W (W.alloc (.cells knA 63)) (.slice none 0 0) []) := hide ⟨HasC.new _ _ _, ⟨rfl, .inl ⟨rfl, rfl⟩⟩, by simp [Value.ownBlock], bel1 W _⟩
    have HL := hide (zlist_any W)
    go_enter Tryz.func23, Tryz.ntmps23
    go_wp2_with fail
    refine HL.out.mono ?_
    rintro e V ⟨rfl, rfl⟩
    go_wp2_with fail
    go_loopw [5, 15] (fun rv iv wr => ∃ (k : Nat) (ra : Option Addr) (rc : Nat), k ≤ n ∧ iv = .int .i64 k ∧ rv = .slice ra k rc ∧ (∀ p ∈ P.take k, 1 ≤ p ∧ p ≤ 4) ∧ Hid (Rw W wr (.slice ra k rc) (P.take k))) (fun _ iv _ => n - (intOf iv).toNat)
    case atStart => exact ⟨0, none, 0, Nat.zero_le _, rfl, rfl, by simp, HR0⟩
    case round =>
      obtain ⟨k, ra, rc, hk, rfl, rfl, hall, HR⟩ := hrel
      rename World => V1
      clear HR0 HL
      by_cases hlt : k < n
      · obtain ⟨b, off, e', -, hat⟩ := (HPI.out.later HR.out.lo).at (by omega)
        subst e'
        have c0 := hat k hlt
        have htk : P.take (k + 1) = P.take k ++ [P.getD k 0] := Cde.take_snoc 0 (by rw [HPn.out]; exact hlt)
        have hmem : P.getD k 0 ∈ P := by
          rw [List.getD_eq_getElem?_getD, List.getElem?_eq_getElem (by rw [HPn.out]; exact hlt)]
          exact List.getElem_mem _
        have htl : (P.take k).length = k := by rw [List.length_take, HPn.out]; omega
        generalize P.getD k 0 = p at *
        have j1 : (k : Int) < n := by omega
        have j0 : (0 : Int) ≤ k := by omega
        have hb1 := bel1 V1 (.cells #[.int .i64 p] 3)
        have HR1 := hide (HR.out.below hb1)
        have HN1 := hide (HasC.new V1 3 #[.int .i64 p])
        have HX := hide (zindex_any p HR1.out.k HN1.out)
        have HTl := hide htl
        clear hat hb1 HR htl
        go_wp2_with fail
        refine HX.out.mono ?_
        rintro e V2 ⟨rfl, hb⟩
        have HR2 := hide (HR1.out.below hb)
        clear hb HX HR1 HN1 c0
        by_cases hp : 1 ≤ p ∧ p ≤ 4
        · rw [show ixP p = p - 1 from if_pos hp]
          obtain ⟨q, hq⟩ : ∃ q : Nat, p = (q : Int) + 1 := ⟨(p - 1).toNat, by omega⟩
          subst hq
          rw [show (q : Int) + 1 - 1 = q by omega]
          obtain ⟨d0, d1⟩ := kn_at HR2.out.k (q := q) (by omega)
          have l0 : ¬ (q : Int) < 0 := by omega
          have l1 : (q : Int) < 4 := by omega
          have l2 : (0 : Int) ≤ q := by omega
          have hb2 := bel1 V2 (.cells #[.int .i64 ((q : Int) + 1), fnV ((q : Int) + 1)] 63)
          have HR3 := hide (HR2.out.below hb2)
          have HN3 := hide (HasC.new V2 63 #[.int .i64 ((q : Int) + 1), fnV ((q : Int) + 1)])
          clear hb2
          go_wp2_with (at_builtin; refine ps_list HTl.out rfl _ _ rfl rfl HR3.out.r HR3.out.lo.size _ ((q : Int) + 1) rfl HN3.out (by rw [HTl.out]; omega) ?_; intro g2 cap' w2 hown hgr hat)
          have HR4 := hide (HR3.out.grow rfl hgr hown hat)
          rw [← htk] at HR4
          clear hown hgr hat HR3 HR2 HN3 d0 d1
          go_roundw
          case rel => exact ⟨k + 1, _, _, by omega, by go_num, rfl, by
            rw [htk]
            intro x hx
            rcases List.mem_append.1 hx with h1 | h1
            · exact hall x h1
            · rw [List.mem_singleton] at h1; rw [h1]; exact hp, HR4⟩
          case measure => simp [intOf]; omega
        · rw [show ixP p = -1 from if_neg hp]
          go_wp2_with fail
          go_ret2
          exact ⟨HR2.out.lo, .inr ⟨okP_odd hmem hp, rfl⟩⟩
      · obtain rfl : k = n := by omega
        have ht : P.take k = P := List.take_of_length_le (by rw [HPn.out]; omega)
        rw [ht] at HR hall
        have hr := HR.out.r
        rw [HPn.out] at hr
        have HRr := hide hr
        clear hr
        go_wp2_with fail
        go_ret2
        exact ⟨HR.out.lo, .inl ⟨okP_of (by rw [HPn.out]; omega) hall, _, _, rfl, HRr.out⟩⟩

end Go.Proofs.Pss
