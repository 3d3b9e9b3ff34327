/-
  The document's making: its state; put, times, divide.
-/
import Derived.Test.YtlpebmngjagbaaaGreatMU5
import Derived.Test.YtlpebmngjagbaaaGreatMU6
namespace Go.Proofs.Rdc
open Go.RowKit Go.IntWalk YtlpebmngjagbaaaGreat.Knd
open Cde (In i0 ia kd cd Ins at6 six_of four_of two_of has_new1 okI okT below_drew is6 i6 zA take_snoc)
open Vfy (vfE vfN vfC Sps w32)
open Fld (In1 rg gv)
set_option linter.unusedVariables false

/-- The making in the block b: what it reads lies in the world W, what it writes is its own. -/
structure Mt (W V : World) (b : Nat) (f d out : Int) (wv sv mv tv : Value) (M : List In) (T : List Int) : Prop where
  w : HasC V b 52 #[.int .i64 f, .int .i64 d, wv, .int .i64 out, sv, mv, tv]
  m : V.ownsRow b 39 6 mv M.length (is6 M)
  t : V.ownsRow b 3 1 tv T.length (i64s T)
  lo : Below W.heap.size W V
  hb : W.heap.size ≤ b
section
variable {W V : World} {b : Nat} {f d out : Int} {wv sv mv tv : Value} {M : List In} {T : List Int}
theorem Mt.below {V' : World} (h : Mt W V b f d out wv sv mv tv M T) (hb : Below V.heap.size V V') : Mt W V' b f d out wv sv mv tv M T :=
  ⟨h.w.below hb, Cde.own_later h.m hb, Cde.own_later h.t hb, bel h.lo hb, h.hb⟩
theorem Mt.le (h : Mt W V b f d out wv sv mv tv M T) : b ≤ V.heap.size := Nat.le_of_lt h.w.lt
theorem Mt.growM {w' : World} {mv' : Value} {M' : List In} (h : Mt W V b f d out wv sv mv tv M T) (hg : V.grownBy w' mv.ownBlock) (hO : w'.ownsRow b 39 6 mv' M'.length (is6 M')) :
    Mt W (w'.setCell ⟨b, 5, none⟩ mv') b f d out wv sv mv' tv M' T ∧ Below b V (w'.setCell ⟨b, 5, none⟩ mv') := by
  have hW := own_grow h.m hg h.w (by decide)
  have hT := own_two h.m h.t (by decide) hg
  have hB : Below b V w' := (Below.refl b V).grown hg h.le fun k hk => (Cde.owns_block h.m k hk).1
  exact ⟨⟨hW.set 5 mv', ownsRow_setCell_other hO (a := ⟨b, 5, none⟩) (own_ne hO hW (by decide)) _, ownsRow_setCell_other hT (a := ⟨b, 5, none⟩) (own_ne hT hW (by decide)) _, (h.lo.grown hg h.lo.size fun k hk => Nat.le_trans h.hb (Cde.owns_block h.m k hk).1).setCell (p := ⟨b, 5, none⟩) h.hb _, h.hb⟩, hB.setCell (p := ⟨b, 5, none⟩) (Nat.le_refl _) _⟩
theorem Mt.growT {w' : World} {tv' : Value} {T' : List Int} (h : Mt W V b f d out wv sv mv tv M T) (hg : V.grownBy w' tv.ownBlock) (hO : w'.ownsRow b 3 1 tv' T'.length (i64s T')) :
    Mt W (w'.setCell ⟨b, 6, none⟩ tv') b f d out wv sv mv tv' M T' ∧ Below b V (w'.setCell ⟨b, 6, none⟩ tv') := by
  have hW := own_grow h.t hg h.w (by decide)
  have hM := own_two h.t h.m (by decide) hg
  have hB : Below b V w' := (Below.refl b V).grown hg h.le fun k hk => (Cde.owns_block h.t k hk).1
  exact ⟨⟨hW.set 6 tv', ownsRow_setCell_other hM (a := ⟨b, 6, none⟩) (own_ne hM hW (by decide)) _, ownsRow_setCell_other hO (a := ⟨b, 6, none⟩) (own_ne hO hW (by decide)) _, (h.lo.grown hg h.lo.size fun k hk => Nat.le_trans h.hb (Cde.owns_block h.t k hk).1).setCell (p := ⟨b, 6, none⟩) h.hb _, h.hb⟩, hB.setCell (p := ⟨b, 6, none⟩) (Nat.le_refl _) _⟩
theorem Mt.keepM {w' : World} {mv' : Value} (h : Mt W V b f d out wv sv mv tv M T) (hg : V.grownBy w' mv.ownBlock) {V0 : World} (hk : Kp V0 V) : Kp V0 (w'.setCell ⟨b, 5, none⟩ mv') := by
  intro q cs hq
  have hq1 := hk q cs hq
  exact (own_grow h.m hg hq1 (by decide)).other (p := ⟨b, 5, none⟩) (has_ne hq1 h.w (by decide)) _
theorem Mt.reg (h : Mt W V b f d out wv sv mv tv M T) {r : Int} (hr : In1 r T.length) : ∃ j g c, r = ((j : Nat) : Int) ∧ j < T.length ∧ T.length ≤ 9223372036854775807 ∧ tv = .slice (some ⟨g, 0, none⟩) T.length c ∧ V.cell? ⟨g, j, none⟩ = some (.int .i64 (gv T r)) := by
  obtain ⟨j, rfl⟩ : ∃ k : Nat, r = k := ⟨r.toNat, by have := hr.1; omega⟩
  have hj : j < T.length := by have := hr.2; omega
  rcases h.t.2 with ⟨e1, e2⟩ | ⟨g, cap, cur, rfl, -⟩
  · omega
  · obtain ⟨a', c', e, hI, -⟩ := Ints.of_owns h.t
    cases e
    obtain ⟨b', off, e', -, hat⟩ := hI.at (by omega)
    cases e'
    have c0 := hat j hj
    rw [Nat.zero_add] at c0
    exact ⟨j, g, cap, rfl, hj, by have := hI.le; have := hI.max; unfold maxLen at this; omega, rfl, c0⟩
end
theorem Mt.at {W V : World} {b gt ct j : Nat} {f d out : Int} {wv sv mv : Value} {M : List In} {T : List Int} (h : Mt W V b f d out wv sv mv (.slice (some ⟨gt, 0, none⟩) T.length ct) M T) (hj : j < T.length) : V.cell? ⟨gt, j, none⟩ = some (.int .i64 (T.getD j 0)) := by
  obtain ⟨a', c', e, hI, -⟩ := Ints.of_owns h.t
  cases e
  obtain ⟨b', off, e', -, hat⟩ := hI.at (by omega)
  cases e'
  have c0 := hat j hj
  rw [Nat.zero_add] at c0
  exact c0

/-- Instructions' boxes beside the list stay, and are not the list's. -/
def Kn (mv mv' : Value) (V V' : World) : Prop := ∀ q n, HasC V q 39 (ia n) → mv.ownBlock ≠ some q → HasC V' q 39 (ia n) ∧ mv'.ownBlock ≠ some q
theorem Kn.trans {x y z : Value} {A B C : World} (h : Kn x y A B) (k : Kn y z B C) : Kn x z A C := fun q n h1 h2 => k q n (h q n h1 h2).1 (h q n h1 h2).2
theorem Kn.of_below {mv : Value} {V V' : World} (hb : Below V.heap.size V V') : Kn mv mv V V' := fun q n h1 h2 => ⟨h1.below hb, h2⟩
/-- An append of one instruction: where the list lies then. -/
theorem ins_listk {V : World} {base : Nat} {v : Value} {L : List In} {ops : Array Oper} {rest : List Oper} {o : Oper} {a : Act} {Q : Exit → Act → World → Prop}
    (hgd : o.guard = none) (s x : Operand) (ho : o.op = .call { callee := .builtin .append, args := #[s, x], argTypes := #[24, 24] })
    (hs : a.eval s = v) (hen : V.ownsRow base 39 6 v L.length (is6 L)) (hbase : base ≤ V.heap.size) (b : Nat) (n : In) (hx : a.eval x = .slice (some ⟨b, 0, none⟩) 1 1) (hc : HasC V b 39 (ia n)) (h3 : L.length ≤ 2000000)
    (h : ∀ g cap w', w'.ownsRow base 39 6 (.slice (some ⟨g, 0, none⟩) (L.length + 1) cap) (L ++ [n]).length (is6 (L ++ [n])) → V.grownBy w' v.ownBlock → (v.ownBlock = some g ∨ g = V.heap.size) → wpList Tryz.prog ops Q rest (a.put o.dst (.slice (some ⟨g, 0, none⟩) (L.length + 1) cap)) w') :
    wpList Tryz.prog ops Q (o :: rest) a V := by
  obtain ⟨i0', hi0, hz0, hz1, hz2⟩ := YtlpebmngjagbaaaGreat.Spn.info_parts infoI
  refine wpList_append_lies V hgd s x 24 ho base 39 i0' _ 6 48 Tryz.underlying24 hi0 hz0 hz1 hz2 rfl (by omega) v L.length (is6 L) hs hen ⟨b, 0, none⟩ 1 1 (i6 n) hx rfl (news_in hc) (by simp [Value.oneCell', i6]) (by omega) (by unfold maxLen; omega) (by omega) hbase V.heap.size rfl ?_
  intro g cap w' hown hgrow hat hlt
  refine h g cap w' ?_ hgrow hat
  rw [Cde.is6_snoc, List.length_append]
  exact hown

theorem kn_put {W V V1 w' : World} {b g l cap' : Nat} {f d out : Int} {wv sv mv tv : Value} {M : List In} {T : List Int} (h : Mt W V1 b f d out wv sv mv tv M T) (hk : Kn mv mv V V1) (hg : V1.grownBy w' mv.ownBlock) (hat : mv.ownBlock = some g ∨ g = V1.heap.size) : Kn mv (.slice (some ⟨g, 0, none⟩) l cap') V (w'.setCell ⟨b, 5, none⟩ (.slice (some ⟨g, 0, none⟩) l cap')) := by
  intro q n h1 h2
  have hq := (hk q n h1 h2).1
  refine ⟨(hq.kept hg fun he => h2 he.symm).other (p := ⟨b, 5, none⟩) (has_ne hq h.w (by decide)) _, fun e => ?_⟩
  have e' : g = q := by cases e; rfl
  subst e'
  rcases hat with e1 | e1
  · exact h2 e1
  · have := hq.lt
    omega

set_option maxRecDepth 100000 in
set_option maxHeartbeats 4000000 in
theorem mput_k (op a' b' k s : Int) {z : Int} {W V : World} {b : Nat} {f d out : Int} {wv sv mv tv : Value} {M : List In} {T : List Int} (h : Mt W V b f d out wv sv mv tv M T) (hz : (M.length : Int) = z) (hM : M.length ≤ 2000000) :
    Calls Tryz.prog 32 #[.pointer (some ⟨b, 0, none⟩), .int .i64 op, .int .i64 a', .int .i64 b', .int .i64 k, .int .i64 s] V fun e V' => e = .returned (.int .i64 z) ∧ (∃ mv', Mt W V' b f d out wv sv mv' tv (M ++ [⟨op, a', b', 0, k, s⟩]) T ∧ Kn mv mv' V V') ∧ Below b V V' ∧ Kp V V' := by
  obtain ⟨ma, mc, rfl, -, -⟩ := Ins.of_owns h.m
  have hb1 := bel1 V (.cells (ia ⟨op, a', b', 0, k, s⟩) 39)
  have HF1 := hide (h.below hb1)
  have HN1 := hide (HasC.new V 39 (ia ⟨op, a', b', 0, k, s⟩))
  have HB1 := hide (low_of h.le hb1)
  have HK1 : Hid (Kp V (V.alloc (.cells (ia ⟨op, a', b', 0, k, s⟩) 39))) := hide fun q cs hq => hq.below hb1
  have HKn : Hid (Kn (.slice ma M.length mc) (.slice ma M.length mc) V (V.alloc (.cells (ia ⟨op, a', b', 0, k, s⟩) 39))) := hide (Kn.of_below hb1)
  have c5 := h.w.cell 5 rfl
  have hbl := h.w.lt
  have HM := hide hM
  have HZ := hide hz
  clear h hM hb1 hz
  go_enter Tryz.func32, Tryz.ntmps32
  go_wp2_with (at_builtin; refine ins_listk rfl _ _ rfl rfl HF1.out.m HF1.out.le _ ⟨op, a', b', 0, k, s⟩ rfl HN1.out HM.out ?_; intro g cap' w3 hown hgr hatg; obtain ⟨hW4, hB4⟩ := HF1.out.growM hgr hown; have hKn4 := kn_put HF1.out HKn.out hgr hatg (l := M.length + 1) (cap' := cap'); have hK4 := HF1.out.keepM (mv' := .slice (some ⟨g, 0, none⟩) (M.length + 1) cap') hgr HK1.out; have hc3 := own_grow HF1.out.m hgr HF1.out.w (by decide); have v3 := hc3.cell 5 rfl; have yv := hc3.frozen 5; have hl3 := hc3.lt)
  go_ret
  exact ⟨by rw [← HZ.out]; simp; exact wrap64_in _ ⟨by omega, by have := HM.out; omega⟩, ⟨_, hW4, hKn4⟩, HB1.out.trans hB4, hK4⟩
theorem mput_z (op a' b' k s : Int) {z : Int} {W V : World} {b : Nat} {f d out : Int} {wv sv mv tv : Value} {M : List In} {T : List Int} (h : Mt W V b f d out wv sv mv tv M T) (hz : (M.length : Int) = z) (hM : M.length ≤ 2000000) :
    Calls Tryz.prog 32 #[.pointer (some ⟨b, 0, none⟩), .int .i64 op, .int .i64 a', .int .i64 b', .int .i64 k, .int .i64 s] V fun e V' => e = .returned (.int .i64 z) ∧ (∃ mv', Mt W V' b f d out wv sv mv' tv (M ++ [⟨op, a', b', 0, k, s⟩]) T) ∧ Below b V V' ∧ Kp V V' :=
  (mput_k op a' b' k s h hz hM).mono fun e V' ⟨h1, ⟨mv', h2, _⟩, h3, h4⟩ => ⟨h1, ⟨mv', h2⟩, h3, h4⟩

set_option maxRecDepth 100000 in
set_option maxHeartbeats 4000000 in
theorem mtimes_z (r k : Int) {z : Int} {W V : World} {b : Nat} {f d out : Int} {wv sv mv tv : Value} {M : List In} {T : List Int} (h : Mt W V b f d out wv sv mv tv M T) (hz : (M.length : Int) = z) (hM : M.length ≤ 2000000) :
    Calls Tryz.prog 31 #[.pointer (some ⟨b, 0, none⟩), .int .i64 r, .int .i64 k] V fun e V' => e = .returned (.int .i64 z) ∧ (∃ mv', Mt W V' b f d out wv sv mv' tv (M ++ [tmI r k]) T) ∧ Below b V V' := by
  have HP := hide (gpower_any k V)
  have HU1 := hide fun p => mput_z 29 r 0 p 0 h hz hM
  have HU2 := hide (mput_z 32 r 0 k 0 h hz hM)
  unfold tmI
  generalize pwZ k = p at *
  clear h hM hz
  by_cases hp : 0 ≤ p
  · rw [if_pos hp]
    have q : decide (p < 0) = false := by simp; omega
    clear hp
    go_enter Tryz.func31, Tryz.ntmps31
    go_wp2_with fail
    refine HP.out.mono ?_
    rintro e w' ⟨rfl, rfl⟩
    go_wp2_with fail
    refine (HU1.out p).mono ?_
    rintro e V1 ⟨rfl, hw, hb, -⟩
    go_wp2_with fail
    go_ret
    exact ⟨rfl, hw, hb⟩
  · rw [if_neg hp]
    have q : decide (p < 0) = true := by simp; omega
    clear hp
    go_enter Tryz.func31, Tryz.ntmps31
    go_wp2_with fail
    refine HP.out.mono ?_
    rintro e w' ⟨rfl, rfl⟩
    go_wp2_with fail
    refine HU2.out.mono ?_
    rintro e V1 ⟨rfl, hw, hb, -⟩
    go_wp2_with fail
    go_ret
    exact ⟨rfl, hw, hb⟩

/-- What the making's ways answer: what is written, and the last register; or nothing. -/
def QmP (W V : World) (b : Nat) (f d out : Int) (wv sv tv : Value) (M : List In) (T : List Int) (o : Option (List In)) (e : Ending) (V' : World) : Prop :=
  (∃ Q, o = some Q ∧ e = .returned (.tuple #[.int .i64 (((M.length + Q.length : Nat) : Int) - 1), .bool true]) ∧ (∃ mv', Mt W V' b f d out wv sv mv' tv (M ++ Q) T) ∧ Below b V V') ∨
  (o = none ∧ e = .returned (.tuple #[.int .i64 0, .bool false]) ∧ Below V.heap.size V V')
def QmK (W V : World) (b : Nat) (f d out : Int) (wv sv mv tv : Value) (M : List In) (T : List Int) (o : Option (List In)) (e : Ending) (V' : World) : Prop :=
  (∃ Q, o = some Q ∧ e = .returned (.tuple #[.int .i64 (((M.length + Q.length : Nat) : Int) - 1), .bool true]) ∧ (∃ mv', Mt W V' b f d out wv sv mv' tv (M ++ Q) T ∧ Kn mv mv' V V') ∧ Below b V V') ∨
  (o = none ∧ e = .returned (.tuple #[.int .i64 0, .bool false]) ∧ Below V.heap.size V V')
theorem QmK.many {W V V' : World} {b : Nat} {f d out : Int} {wv sv mv tv : Value} {M : List In} {T : List Int} {o : Option (List In)} {z : Int} (Q : List In) (ho : o = some Q) (hz : ((M.length + Q.length : Nat) : Int) - 1 = z) (h : ∃ mv', Mt W V' b f d out wv sv mv' tv (M ++ Q) T ∧ Kn mv mv' V V') (hb : Below b V V') : QmK W V b f d out wv sv mv tv M T o (.returned (.tuple #[.int .i64 z, .bool true])) V' := by
  subst hz
  exact .inl ⟨Q, ho, rfl, h, hb⟩
theorem QmK.no {W V V' : World} {b : Nat} {f d out : Int} {wv sv mv tv : Value} {M : List In} {T : List Int} {o : Option (List In)} (ho : o = none) (hb : Below V.heap.size V V') : QmK W V b f d out wv sv mv tv M T o (.returned (.tuple #[.int .i64 0, .bool false])) V' := .inr ⟨ho, rfl, hb⟩
theorem QmK.weak {W V V' : World} {b : Nat} {f d out : Int} {wv sv mv tv : Value} {M : List In} {T : List Int} {o : Option (List In)} {e : Ending} (h : QmK W V b f d out wv sv mv tv M T o e V') : QmP W V b f d out wv sv tv M T o e V' := by
  rcases h with ⟨Q, h1, h2, ⟨mv', h3, -⟩, h4⟩ | h
  · exact .inl ⟨Q, h1, h2, ⟨mv', h3⟩, h4⟩
  · exact .inr h
theorem QmP.many {W V V' : World} {b : Nat} {f d out : Int} {wv sv tv : Value} {M : List In} {T : List Int} {o : Option (List In)} {z : Int} (Q : List In) (ho : o = some Q) (hz : ((M.length + Q.length : Nat) : Int) - 1 = z) (h : ∃ mv', Mt W V' b f d out wv sv mv' tv (M ++ Q) T) (hb : Below b V V') : QmP W V b f d out wv sv tv M T o (.returned (.tuple #[.int .i64 z, .bool true])) V' := by
  subst hz
  exact .inl ⟨Q, ho, rfl, h, hb⟩
theorem QmP.no {W V V' : World} {b : Nat} {f d out : Int} {wv sv tv : Value} {M : List In} {T : List Int} {o : Option (List In)} (ho : o = none) (hb : Below V.heap.size V V') : QmP W V b f d out wv sv tv M T o (.returned (.tuple #[.int .i64 0, .bool false])) V' := .inr ⟨ho, rfl, hb⟩

set_option maxRecDepth 100000 in
set_option maxHeartbeats 8000000 in
theorem mdivide_k (r d : Int) (hd : 2 ≤ d ∧ d ≤ 2147483647) {W V : World} {b : Nat} {f dd out : Int} {wv : Value} {sa : Option Addr} {sn sc : Nat} {mv tv : Value} {M : List In} {T : List Int} {S : Sps} (h : Mt W V b f dd out wv (.slice sa sn sc) mv tv M T) (hS : YtlpebmngjagbaaaGreat.Spn.Spans W sa sn sc S) (hT : T.length ≤ sn) (hM : M.length ≤ 1000000) (hr : In1 r T.length) {lo hi : Int} (hs : S.getD r.toNat (0, 0) = (lo, hi)) (hw : Wh lo hi) :
    Calls Tryz.prog 33 #[.pointer (some ⟨b, 0, none⟩), .int .i64 r, .int .i64 d] V (QmK W V b f dd out wv (.slice sa sn sc) mv tv M T (dvL lo hi (gv T r) d M.length)) := by
  have hb1 := bel1 V (.cells #[.int .i64 lo, .int .i64 hi] 67)
  have HF1 := hide (h.below hb1)
  have HC1 := hide (HasC.new V 67 #[.int .i64 lo, .int .i64 hi])
  have HB1 := hide hb1
  have HL1 := hide (low_of h.le hb1)
  have HN1 : Hid (Kn mv mv V (V.alloc (.cells #[.int .i64 lo, .int .i64 hi] 67))) := hide (Kn.of_below hb1)
  have HM := hide hM
  have HP := hide fun w => gpower_any d w
  have HMg := hide fun sz w => gmagic_any sz d w
  obtain ⟨m, hm⟩ : ∃ m : Int, (M.length : Int) = m := ⟨_, rfl⟩
  rw [hm]
  have HMl := hide hm
  obtain ⟨w1, w2, w3, w4, w5⟩ := hw
  obtain ⟨d1, d2⟩ := hd
  obtain ⟨j, gt, ct, rfl, hj, htl, rfl, ct0⟩ := h.reg hr
  obtain ⟨x, hx⟩ : ∃ x, gv T (j : Int) = x := ⟨_, rfl⟩
  rw [hx] at ct0 ⊢
  have hg1 := h.w.cell 4 rfl
  have hg3 := h.w.cell 6 rfl
  obtain ⟨gs, off, rfl, hgs, hsc⟩ := (hS.later h.lo).at (by omega)
  obtain ⟨c0, c1⟩ := hsc j (by omega)
  rw [Int.toNat_natCast] at hs
  rw [hs] at c0 c1
  dsimp only at c0 c1
  have hsn := hS.le
  have hsn2 := hS.max
  unfold maxLen at hsn2
  have i0' : (0 : Int) ≤ j := by omega
  have i1' : (j : Int) < sn := by omega
  obtain ⟨tl, htl'⟩ : ∃ tl, T.length = tl := ⟨_, rfl⟩
  rw [htl'] at hg3 htl
  have i2' : (j : Int) < tl := by omega
  have hb0 := h.w.lt
  have hgt : gt < V.heap.size := World.block_lt_of_cell? V _ ct0
  clear hx hm h hS hT hM hr hs hsc hj hb1 htl'
  obtain ⟨O, hO⟩ : ∃ O, dvL lo hi x d m = O := ⟨_, rfl⟩
  rw [hO]
  unfold dvL at hO
  obtain ⟨p, hp⟩ : ∃ p, pwZ d = p := ⟨_, rfl⟩
  rw [hp] at HP hO
  clear hp
  go_enter Tryz.func33, Tryz.ntmps33
  go_wp2_with fail
  refine (HP.out _).mono ?_
  rintro e w' ⟨rfl, rfl⟩
  obtain ⟨s0, s1⟩ := two_of HC1.out
  generalize hV1 : V.alloc (.cells #[.int .i64 lo, .int .i64 hi] 67) = V1 at *
  generalize hgb : V.heap.size = gb at *
  clear HP hg1 hg3 c0 c1 ct0 hgs hgt hb0
  by_cases hpp : 0 < p
  · have q0 : decide (0 < p) = true := by simpa using hpp
    rw [if_pos hpp] at hO
    clear hpp
    by_cases h0 : 0 ≤ lo
    · rw [if_pos h0] at hO
      have HO := hide hO.symm
      have q1 : decide (0 ≤ lo) = true := by simpa using h0
      clear hO h0
      have HU := hide (mput_k 30 x 0 p 0 HF1.out HMl.out (by have := HM.out; omega))
      go_wp2_with fail
      refine HU.out.mono ?_
      clear HU
      rintro e V2 ⟨rfl, ⟨mv2, hw, hkn⟩, hb, hk⟩
      have HF2 := hide hw
      have HN2 := hide (HN1.out.trans hkn)
      clear hkn
      have HL2 := hide (HL1.out.trans hb)
      go_wp2_with fail
      exact bodyPost_ret (v := .tuple #[.int .i64 m, .bool true]) (by simp [results, Tryz.results33, go_sem]) rfl (QmK.many _ HO.out (by have := HMl.out; have := HMl.out; simp; simp at *; omega) ⟨_, by simpa using HF2.out, HN2.out⟩ HL2.out)
    · rw [if_neg h0] at hO
      have q1 : decide (0 ≤ lo) = false := by simpa using h0
      clear h0
      by_cases h1 : hi + d - 1 ≤ 2147483647
      · rw [if_pos h1] at hO
        have HO := hide hO.symm
        have q2 : decide (2147483647 < hi + d - 1) = false := by simp; omega
        clear hO h1
        obtain ⟨z1, hz1⟩ : ∃ z1 : Int, m + 1 = z1 := ⟨_, rfl⟩
        obtain ⟨z2, hz2⟩ : ∃ z2 : Int, m + 2 = z2 := ⟨_, rfl⟩
        obtain ⟨z3, hz3⟩ : ∃ z3 : Int, m + 3 = z3 := ⟨_, rfl⟩
        rw [hz1, hz2] at HO
        have HZ1 : Hid (((M ++ [(⟨30, x, 0, 0, 31, 0⟩ : In)]).length : Int) = z1) := hide (by have := HMl.out; simp; omega)
        have HZ2 : Hid (((M ++ [(⟨30, x, 0, 0, 31, 0⟩ : In)] ++ [(⟨31, m, 0, 0, d - 1, 0⟩ : In)]).length : Int) = z2) := hide (by have := HMl.out; simp; omega)
        have HZ3 : Hid (((M ++ [(⟨30, x, 0, 0, 31, 0⟩ : In)] ++ [(⟨31, m, 0, 0, d - 1, 0⟩ : In)] ++ [(⟨8, x, z1, 0, 0, 0⟩ : In)]).length : Int) = z3) := hide (by have := HMl.out; simp; omega)
        have HZm := hide hz3
        clear hz1 hz2 hz3
        have HU := hide (mput_k 30 x 0 31 0 HF1.out HMl.out (by have := HM.out; omega))
        go_wp2_with fail
        refine HU.out.mono ?_
        clear HU
        rintro e V2 ⟨rfl, ⟨mv2, hw, hkn⟩, hb, hk⟩
        have HF2 := hide hw
        have HN2 := hide (HN1.out.trans hkn)
        clear hkn
        have HL2 := hide (HL1.out.trans hb)
        clear hw hb hk
        have HU := hide (mput_k 31 m 0 (d - 1) 0 HF2.out HZ1.out (by have := HM.out; simp; omega))
        go_wp2_with fail
        refine HU.out.mono ?_
        clear HU
        rintro e V3 ⟨rfl, ⟨mv3, hw, hkn⟩, hb, hk⟩
        have HF3 := hide hw
        have HN3 := hide (HN2.out.trans hkn)
        clear hkn
        have HL3 := hide (HL2.out.trans hb)
        clear hw hb hk
        have HU := hide (mput_k 8 x z1 0 0 HF3.out HZ2.out (by have := HM.out; simp; omega))
        go_wp2_with fail
        refine HU.out.mono ?_
        clear HU
        rintro e V4 ⟨rfl, ⟨mv4, hw, hkn⟩, hb, hk⟩
        have HF4 := hide hw
        have HN4 := hide (HN3.out.trans hkn)
        clear hkn
        have HL4 := hide (HL3.out.trans hb)
        clear hw hb hk
        have HU := hide (mput_k 30 z2 0 p 0 HF4.out HZ3.out (by have := HM.out; simp; omega))
        go_wp2_with fail
        refine HU.out.mono ?_
        clear HU
        rintro e V5 ⟨rfl, ⟨mv5, hw, hkn⟩, hb, hk⟩
        have HF5 := hide hw
        have HN5 := hide (HN4.out.trans hkn)
        clear hkn
        have HL5 := hide (HL4.out.trans hb)
        clear hw hb hk
        go_wp2_with fail
        exact bodyPost_ret (v := .tuple #[.int .i64 z3, .bool true]) (by simp [results, Tryz.results33, go_sem]) rfl (QmK.many _ HO.out (by have := HMl.out; have := HZm.out; simp; simp at *; omega) ⟨_, by simpa using HF5.out, HN5.out⟩ HL5.out)
      · rw [if_neg h1] at hO
        have HO := hide hO.symm
        have q2 : decide (2147483647 < hi + d - 1) = true := by simp; omega
        clear hO h1
        go_wp2_with fail
        exact bodyPost_ret (v := .tuple #[.int .i64 0, .bool false]) (by simp [results, Tryz.results33, go_sem]) rfl (QmK.no HO.out (by rw [hgb]; exact HB1.out))
  · have q0 : decide (0 < p) = false := by simpa using hpp
    rw [if_neg hpp] at hO
    clear hpp
    have hmx : (hi < -lo ∧ max (-lo) hi = -lo) ∨ (-lo ≤ hi ∧ max (-lo) hi = hi) := by omega
    have hmg : ∃ sz, max (-lo) hi = sz ∧ ((hi < -lo ∧ sz = -lo) ∨ (-lo ≤ hi ∧ sz = hi)) := ⟨_, rfl, by omega⟩
    clear hmx
    obtain ⟨sz, hsz, hmx⟩ := hmg
    rw [hsz] at hO
    obtain ⟨⟨k, s, ok⟩, hK⟩ : ∃ Z, mgZ sz d = Z := ⟨_, rfl⟩
    rw [hK] at hO
    dsimp only at hO
    rcases hmx with ⟨hmx, hse⟩ | ⟨hmx, hse⟩
    · rw [hse] at hK
      have HMg2 := hide fun w => HMg.out (-lo) w
      rw [hK] at HMg2
      dsimp only [mgV] at HMg2
      have qm : decide (hi < -lo) = true := by simpa using hmx
      clear hK hsz hse
      go_wp2_with fail
      refine (HMg2.out _).mono ?_
      rintro e w' ⟨rfl, rfl⟩
      clear HMg2 HMg
      cases ok
      · have HO := hide (hO.symm.trans (if_neg (by simp)))
        clear hO
        go_wp2_with fail
        exact bodyPost_ret (v := .tuple #[.int .i64 0, .bool false]) (by simp [results, Tryz.results33, go_sem]) rfl (QmK.no HO.out (by rw [hgb]; exact HB1.out))
      · rw [if_pos rfl] at hO
        have HU := hide (mput_k 33 x 0 k s HF1.out HMl.out (by have := HM.out; omega))
        go_wp2_with fail
        refine HU.out.mono ?_
        clear HU
        rintro e V2 ⟨rfl, ⟨mv2, hw, hkn⟩, hb, hk⟩
        have HF2 := hide hw
        have HN2 := hide (HN1.out.trans hkn)
        clear hkn
        have HL2 := hide (HL1.out.trans hb)
        have HC2 := hide (hk _ _ HC1.out)
        clear hw hb hk s0 s1
        obtain ⟨s0, s1⟩ := two_of HC2.out
        by_cases h0 : 0 ≤ lo
        · rw [if_pos h0] at hO
          have HO := hide hO.symm
          have q1 : decide (0 ≤ lo) = true := by simpa using h0
          clear hO h0
          go_wp2_with fail
          exact bodyPost_ret (v := .tuple #[.int .i64 m, .bool true]) (by simp [results, Tryz.results33, go_sem]) rfl (QmK.many _ HO.out (by have := HMl.out; have := HMl.out; simp; simp at *; omega) ⟨_, by simpa using HF2.out, HN2.out⟩ HL2.out)
        · rw [if_neg h0] at hO
          have HO := hide hO.symm
          have q1 : decide (0 ≤ lo) = false := by simpa using h0
          clear hO h0
          obtain ⟨z1, hz1⟩ : ∃ z1 : Int, m + 1 = z1 := ⟨_, rfl⟩
          obtain ⟨z2, hz2⟩ : ∃ z2 : Int, m + 2 = z2 := ⟨_, rfl⟩
          rw [hz1] at HO
          have HZ1 : Hid (((M ++ [(⟨33, x, 0, 0, k, s⟩ : In)]).length : Int) = z1) := hide (by have := HMl.out; simp; omega)
          have HZ2 : Hid (((M ++ [(⟨33, x, 0, 0, k, s⟩ : In)] ++ [(⟨30, x, 0, 0, 31, 0⟩ : In)]).length : Int) = z2) := hide (by have := HMl.out; simp; omega)
          have HZm := hide hz2
          clear hz1 hz2
          have HU := hide (mput_k 30 x 0 31 0 HF2.out HZ1.out (by have := HM.out; simp; omega))
          go_wp2_with fail
          refine HU.out.mono ?_
          clear HU
          rintro e V3 ⟨rfl, ⟨mv3, hw, hkn⟩, hb, hk⟩
          have HF3 := hide hw
          have HN3 := hide (HN2.out.trans hkn)
          clear hkn
          have HL3 := hide (HL2.out.trans hb)
          clear hw hb hk
          have HU := hide (mput_k 9 m z1 0 0 HF3.out HZ2.out (by have := HM.out; simp; omega))
          go_wp2_with fail
          refine HU.out.mono ?_
          clear HU
          rintro e V4 ⟨rfl, ⟨mv4, hw, hkn⟩, hb, hk⟩
          have HF4 := hide hw
          have HN4 := hide (HN3.out.trans hkn)
          clear hkn
          have HL4 := hide (HL3.out.trans hb)
          clear hw hb hk
          go_wp2_with fail
          exact bodyPost_ret (v := .tuple #[.int .i64 z2, .bool true]) (by simp [results, Tryz.results33, go_sem]) rfl (QmK.many _ HO.out (by have := HMl.out; have := HZm.out; simp; simp at *; omega) ⟨_, by simpa using HF4.out, HN4.out⟩ HL4.out)
    · rw [hse] at hK
      have HMg2 := hide fun w => HMg.out (hi) w
      rw [hK] at HMg2
      dsimp only [mgV] at HMg2
      have qm : decide (hi < -lo) = false := by simpa using hmx
      clear hK hsz hse
      go_wp2_with fail
      refine (HMg2.out _).mono ?_
      rintro e w' ⟨rfl, rfl⟩
      clear HMg2 HMg
      cases ok
      · have HO := hide (hO.symm.trans (if_neg (by simp)))
        clear hO
        go_wp2_with fail
        exact bodyPost_ret (v := .tuple #[.int .i64 0, .bool false]) (by simp [results, Tryz.results33, go_sem]) rfl (QmK.no HO.out (by rw [hgb]; exact HB1.out))
      · rw [if_pos rfl] at hO
        have HU := hide (mput_k 33 x 0 k s HF1.out HMl.out (by have := HM.out; omega))
        go_wp2_with fail
        refine HU.out.mono ?_
        clear HU
        rintro e V2 ⟨rfl, ⟨mv2, hw, hkn⟩, hb, hk⟩
        have HF2 := hide hw
        have HN2 := hide (HN1.out.trans hkn)
        clear hkn
        have HL2 := hide (HL1.out.trans hb)
        have HC2 := hide (hk _ _ HC1.out)
        clear hw hb hk s0 s1
        obtain ⟨s0, s1⟩ := two_of HC2.out
        by_cases h0 : 0 ≤ lo
        · rw [if_pos h0] at hO
          have HO := hide hO.symm
          have q1 : decide (0 ≤ lo) = true := by simpa using h0
          clear hO h0
          go_wp2_with fail
          exact bodyPost_ret (v := .tuple #[.int .i64 m, .bool true]) (by simp [results, Tryz.results33, go_sem]) rfl (QmK.many _ HO.out (by have := HMl.out; have := HMl.out; simp; simp at *; omega) ⟨_, by simpa using HF2.out, HN2.out⟩ HL2.out)
        · rw [if_neg h0] at hO
          have HO := hide hO.symm
          have q1 : decide (0 ≤ lo) = false := by simpa using h0
          clear hO h0
          obtain ⟨z1, hz1⟩ : ∃ z1 : Int, m + 1 = z1 := ⟨_, rfl⟩
          obtain ⟨z2, hz2⟩ : ∃ z2 : Int, m + 2 = z2 := ⟨_, rfl⟩
          rw [hz1] at HO
          have HZ1 : Hid (((M ++ [(⟨33, x, 0, 0, k, s⟩ : In)]).length : Int) = z1) := hide (by have := HMl.out; simp; omega)
          have HZ2 : Hid (((M ++ [(⟨33, x, 0, 0, k, s⟩ : In)] ++ [(⟨30, x, 0, 0, 31, 0⟩ : In)]).length : Int) = z2) := hide (by have := HMl.out; simp; omega)
          have HZm := hide hz2
          clear hz1 hz2
          have HU := hide (mput_k 30 x 0 31 0 HF2.out HZ1.out (by have := HM.out; simp; omega))
          go_wp2_with fail
          refine HU.out.mono ?_
          clear HU
          rintro e V3 ⟨rfl, ⟨mv3, hw, hkn⟩, hb, hk⟩
          have HF3 := hide hw
          have HN3 := hide (HN2.out.trans hkn)
          clear hkn
          have HL3 := hide (HL2.out.trans hb)
          clear hw hb hk
          have HU := hide (mput_k 9 m z1 0 0 HF3.out HZ2.out (by have := HM.out; simp; omega))
          go_wp2_with fail
          refine HU.out.mono ?_
          clear HU
          rintro e V4 ⟨rfl, ⟨mv4, hw, hkn⟩, hb, hk⟩
          have HF4 := hide hw
          have HN4 := hide (HN3.out.trans hkn)
          clear hkn
          have HL4 := hide (HL3.out.trans hb)
          clear hw hb hk
          go_wp2_with fail
          exact bodyPost_ret (v := .tuple #[.int .i64 z2, .bool true]) (by simp [results, Tryz.results33, go_sem]) rfl (QmK.many _ HO.out (by have := HMl.out; have := HZm.out; simp; simp at *; omega) ⟨_, by simpa using HF4.out, HN4.out⟩ HL4.out)
theorem mdivide_any (r d : Int) (hd : 2 ≤ d ∧ d ≤ 2147483647) {W V : World} {b : Nat} {f dd out : Int} {wv : Value} {sa : Option Addr} {sn sc : Nat} {mv tv : Value} {M : List In} {T : List Int} {S : Sps} (h : Mt W V b f dd out wv (.slice sa sn sc) mv tv M T) (hS : YtlpebmngjagbaaaGreat.Spn.Spans W sa sn sc S) (hT : T.length ≤ sn) (hM : M.length ≤ 1000000) (hr : In1 r T.length) {lo hi : Int} (hs : S.getD r.toNat (0, 0) = (lo, hi)) (hw : Wh lo hi) :
    Calls Tryz.prog 33 #[.pointer (some ⟨b, 0, none⟩), .int .i64 r, .int .i64 d] V (QmP W V b f dd out wv (.slice sa sn sc) tv M T (dvL lo hi (gv T r) d M.length)) :=
  (mdivide_k r d hd h hS hT hM hr hs hw).mono fun _ _ h => h.weak

end Go.Proofs.Rdc

/-
  The document's quick.
-/
namespace Go.Proofs.Rdc
open Go.RowKit Go.IntWalk YtlpebmngjagbaaaGreat.Knd
open Cde (In i0 ia kd cd Ins at6 six_of four_of two_of has_new1 okI okT below_drew is6 i6 zA take_snoc)
open Vfy (vfE vfN vfC Sps w32)
open Fld (In1 rg gv ar ag2)
set_option linter.unusedVariables false

theorem mg_few {size d : Int} (h : d < 2) : mgZ size d = (0, 0, false) := by unfold mgZ; rw [if_neg (by omega)]
theorem pw_few {d : Int} (h : d < 2) : ¬ 0 < pwZ d := by
  rcases pw_cases d with e | ⟨n, n1, n2, n3⟩
  · omega
  · intro h0
    have := pow_le' (show 1 ≤ n by omega)
    rw [← n3] at this
    omega
theorem dvL_few {lo hi x d m : Int} (h : d < 2) : dvL lo hi x d m = none := by
  unfold dvL
  rw [if_neg (pw_few h), mg_few h]
  rfl

set_option maxRecDepth 100000 in
set_option maxHeartbeats 4000000 in
theorem mquick_no (n : In) (hop : n.op < 8 ∨ 25 < n.op) {W V : World} {b : Nat} {f dd out : Int} {wv sv mv tv : Value} {M : List In} {T : List Int} {L : List In} {S : Sps} (h : Mt W V b f dd out wv sv mv tv M T) :
    Calls Tryz.prog 15 #[.pointer (some ⟨b, 0, none⟩), .agg (ia n)] V (QmP W V b f dd out wv sv tv M T (qkL L S T n M.length)) := by
  have hq : qkL L S T n M.length = none := by
    unfold qkL
    rw [if_neg (by omega), if_neg (by omega), if_neg (by omega), if_neg (by omega), if_neg (by omega), if_neg (by omega)]
  rw [hq]
  have HB0 := hide (bel1 V (.cells (ia n) 39))
  have t : decide (n.op < 8) = true ∨ (decide (n.op < 8) = false ∧ decide (25 < n.op) = true) := by
    by_cases h8 : n.op < 8
    · exact .inl (by simpa using h8)
    · exact .inr ⟨by simpa using h8, by simp; omega⟩
  clear hq hop h
  rcases t with t1 | ⟨t1, t2⟩
  all_goals
    go_enter Tryz.func15, Tryz.ntmps15
    go_wp2_with fail
    exact bodyPost_ret (v := .tuple #[.int .i64 0, .bool false]) (by simp [results, Tryz.results15, go_sem]) rfl (QmP.no rfl HB0.out)

/-- Quick's boxes behind its two reads. -/
structure Qk (W V0 V : World) (b gn ga gb : Nat) (f dd out : Int) (wv sv mv tv : Value) (M : List In) (T : List Int) (n A B : In) : Prop where
  m : Mt W V b f dd out wv sv mv tv M T
  n : HasC V gn 39 (ia n)
  a : HasC V ga 39 (ia A)
  b : HasC V gb 39 (ia B)
  lo : Below V0.heap.size V0 V
  ne : mv.ownBlock ≠ some gb
theorem Qk.below {W V0 V V' : World} {b gn ga gb : Nat} {f dd out : Int} {wv sv mv tv : Value} {M : List In} {T : List Int} {n A B : In} (h : Qk W V0 V b gn ga gb f dd out wv sv mv tv M T n A B) (hb : Below V.heap.size V V') : Qk W V0 V' b gn ga gb f dd out wv sv mv tv M T n A B := ⟨h.m.below hb, h.n.below hb, h.a.below hb, h.b.below hb, bel h.lo hb, h.ne⟩
theorem has_n1 (W : World) (o : Obj) (t : TypeId) (cs : Array Value) : HasC ((W.alloc o).alloc (.cells cs t)) (W.heap.size + 1) t cs := Cde.has_new1 W o t cs
theorem wp_cut {P : Program} {id : Nat} {ops : Array Oper} {b : Bool} {Q : Exit → Act → World → Prop} {a : Act} {w : World} (T : Act → Act → World → Prop) (h : (Code.region id ops b).wp P (fun e a' w' => e = .normal ∧ T a a' w') a w) (hT : ∀ a' w', T a a' w' → Q .normal a' w') : (Code.region id ops b).wp P Q a w :=
  Code.wp_mono (fun e a' w' ⟨he, ht⟩ => by subst he; exact hT a' w' ht) h

theorem QmP.mono {W V V0 V' : World} {b : Nat} {f d out : Int} {wv sv tv : Value} {M : List In} {T : List Int} {o : Option (List In)} {e : Ending} (h : QmP W V b f d out wv sv tv M T o e V') (hb : b ≤ V0.heap.size) (hB : Below V0.heap.size V0 V) : QmP W V0 b f d out wv sv tv M T o e V' := by
  rcases h with ⟨Q, h1, h2, h3, h4⟩ | ⟨h1, h2, h3⟩
  · exact .inl ⟨Q, h1, h2, h3, (low_of hb hB).trans h4⟩
  · exact .inr ⟨h1, h2, bel hB h3⟩
theorem dn_below (w : World) (q : Nat) : Below w.heap.size w (w.drewN q) := Cde.below_dN w q


end Go.Proofs.Rdc
