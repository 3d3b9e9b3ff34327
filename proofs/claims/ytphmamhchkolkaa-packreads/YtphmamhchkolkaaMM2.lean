/-
  pack.inst: the bytes of an instruction; lists of parts that grow.
-/
import Derived.Test.YtphmamhchkolkaaMM1
namespace Go.Proofs.Pck
open Ytphmamhchkolkaa
open Go.RowKit Go.IntWalk Ytphmamhchkolkaa.Knd
open Ytphmamhchkolkaa.Oct (vb vint lim scn scan pw rdU rdI zz uz)
open Ytphmamhchkolkaa.Ocm (Part joined u8s)
open Cde (In i0 ia cd is6 i6 Ins agL arN okI okT mcB ccE csB rgN rgs rgB abc zA six_of four_of at6 has_new1 below_drew abc_at zA_get cargs_ex ok_reg ok_con ok_ar arN_le ar_five)
set_option linter.unusedVariables false

theorem infoB : (Try.prog.info? 28).map (fun i => (i.zero, i.size, i.bytes)) = some (some (.slice none 0 0), 1, 24) := by kernel_rfl
theorem joined_snoc (ps : List Part) (p : Part) : joined (ps ++ [p]) = joined ps ++ p.zs := by simp [joined]
/-- A growing list of parts: the call's own; what the parts hold. -/
structure Pl (W V : World) (v : Value) (ps : List Part) : Prop where
  s : V.ownsRow W.heap.size 28 1 v ps.length (ps.map Part.v)
  p : ∀ p ∈ ps, Ocm.Bytes V p.a p.n p.c p.zs
  f : ∀ p ∈ ps, ∀ x, p.a = some x → p.n ≠ 0 → v.ownBlock ≠ some x.block
  lo : Below W.heap.size W V
theorem Pl.below {W V V' : World} {v : Value} {ps : List Part} (h : Pl W V v ps) (hb : Below V.heap.size V V') : Pl W V' v ps :=
  ⟨Cde.own_later h.s hb, fun p hp => (h.p p hp).later hb, h.f, bel h.lo hb⟩
/-- A list of parts, and one more part in a box. -/
structure Pr (W V : World) (v : Value) (ps : List Part) (b : Nat) (q : Part) : Prop where
  l : Pl W V v ps
  b : HasC V b 28 #[q.v]
  y : Ocm.Bytes V q.a q.n q.c q.zs
  f : ∀ x, q.a = some x → q.n ≠ 0 → v.ownBlock ≠ some x.block
theorem own_lt {W : World} {base n size : Nat} {e : TypeId} {v : Value} {xs : List Value} (h : W.ownsRow base e size v n xs) {k : Nat} (hk : v.ownBlock = some k) : k < W.heap.size := by
  obtain ⟨-, cs, fr, h1⟩ := Cde.owns_block h k hk
  exact (Array.getElem?_eq_some_iff.1 h1).1
theorem Pl.ready {W V w1 : World} {v : Value} {ps : List Part} {x : Option Addr} {zs : List Int} {c : Nat} (h : Pl W V v ps) (hO : w1.ownsRow V.heap.size 5 1 (.slice x zs.length c) zs.length (u8s zs)) (hb : Below V.heap.size V w1) (hz : Byts zs) :
    Pr W (w1.alloc (.cells #[.slice x zs.length c] 28)) v ps w1.heap.size ⟨x, zs.length, c, zs⟩ := by
  obtain ⟨a', c', e, hB, hl⟩ := byt_own hO hz
  cases e
  refine ⟨(h.below hb).below (bel1 w1 _), HasC.new _ _ _, hB.later (bel1 w1 _), fun y hy hn he => ?_⟩
  have h1 := own_lt h.s he
  have h2 := (hl y hy).1
  omega
/-- An append of the part in the box. -/
theorem pl_list {W V : World} {v : Value} {ps : List Part} {b : Nat} {q : Part} (h : Pr W V v ps b q) (hf : ps.length ≤ 100000) {ops : Array Oper} {rest : List Oper} {o : Oper} {a : Act} {Q : Exit → Act → World → Prop}
    (hgd : o.guard = none) (s x : Operand) (ho : o.op = .call { callee := .builtin .append, args := #[s, x], argTypes := #[38, 38] })
    (hs : a.eval s = v) (hx : a.eval x = .slice (some ⟨b, 0, none⟩) 1 1)
    (hK : ∀ a' n' c' w', Pl W w' (.slice a' n' c') (ps ++ [q]) → n' = ps.length + 1 → (∀ g t cs, HasC V g t cs → t ≠ 28 → HasC w' g t cs) → wpList Try.prog ops Q rest (a.put o.dst (.slice a' n' c')) w') : wpList Try.prog ops Q (o :: rest) a V := by
  obtain ⟨i0', hi0, hz0, hz1, hz2⟩ := info_parts infoB
  refine Ocm.wpList_append_kept V hgd s x 38 ho W.heap.size 28 i0' (.slice none 0 0) 24 Try.underlying38 hi0 hz0 hz1 hz2 rfl v ps.length (ps.map Part.v) hs h.l.s (some ⟨b, 0, none⟩) 1 1 [q.v] hx rfl (fun e => by cases e)
    (fun ad e => by cases e; exact Cde.news_one h.b) (by simp [Value.oneCell', Part.v]) (by unfold maxLen; omega) (by omega) h.l.lo.size ?_
  intro v' w' hown hgr
  obtain ⟨a', c', rfl⟩ := own_slice hown
  have hgrow : ∃ row, V.grownBy w' row ∧ (row = none ∨ row = v.ownBlock) := by
    rcases hgr with ⟨g, cap, e1, e2, h1⟩ | ⟨h1, -⟩
    · exact ⟨some g, h1, .inr (by rw [e1]; rfl)⟩
    · exact ⟨none, h1, .inl rfl⟩
  obtain ⟨row, hg, hrow⟩ := hgrow
  have hrk : ∀ k, row = some k → v.ownBlock = some k := by
    rcases hrow with rfl | rfl
    · intro k e; cases e
    · exact fun k e => e
  have hkeep : ∀ p : Part, Ocm.Bytes V p.a p.n p.c p.zs → (∀ y, p.a = some y → p.n ≠ 0 → v.ownBlock ≠ some y.block) → Ocm.Bytes w' p.a p.n p.c p.zs := fun p hp hpf => hp.kept hg fun y hy hn e => hpf y hy hn (hrk _ e.symm)
  refine hK a' (ps.length + 1) c' w' ⟨?_, fun p hp => ?_, fun p hp y hy hn => ?_, ?_⟩ rfl ?_
  · rw [List.length_append, List.map_append]
    exact hown
  · rcases List.mem_append.1 hp with h1 | h1
    · exact hkeep p (h.l.p p h1) (h.l.f p h1)
    · rw [List.mem_singleton] at h1
      subst h1
      exact hkeep p h.y h.f
  · have hlt : y.block < V.heap.size ∧ v.ownBlock ≠ some y.block := by
      rcases List.mem_append.1 hp with h1 | h1
      · obtain ⟨b', off', e, hl, -⟩ := (h.l.p p h1).at hn
        rw [hy] at e
        cases e
        exact ⟨hl, h.l.f p h1 _ hy hn⟩
      · rw [List.mem_singleton] at h1
        subst h1
        obtain ⟨b', off', e, hl, -⟩ := h.y.at hn
        rw [hy] at e
        cases e
        exact ⟨hl, h.f _ hy hn⟩
    intro e
    rcases hgr with ⟨g, cap, e1, e2, h1⟩ | ⟨-, h1⟩
    · rw [e2] at e
      rw [e1] at hlt
      exact hlt.2 e
    · have := h1 _ e
      omega
  · exact h.l.lo.grown hg h.l.lo.size fun k hk => (Cde.owns_block h.l.s k (hrk k hk)).1
  · intro g t cs hc ht
    exact hc.kept hg fun e => own_ne h.l.s hc ht (hrk _ e.symm)
/-- The parts as a slice. -/
theorem Pl.parts {W V : World} {a : Option Addr} {n c : Nat} {ps : List Part} (h : Pl W V (.slice a n c) ps) (hn : n = ps.length) : Ocm.Parts V a n ps := by
  subst hn
  refine ⟨rfl, ?_, h.p⟩
  have hcs := fun g hg => h.s.cells (g := g) hg
  rcases h.s.2 with ⟨h1, h2⟩ | ⟨g, cap, cur, hv, hb, hg, -⟩
  · exact .inl h2
  · cases hv
    refine .inr ⟨g, 0, rfl, fun i hi => ?_⟩
    have := hcs g rfl i ps[i].v (by rw [List.getElem?_map, List.getElem?_eq_getElem hi]; rfl)
    rw [Addr.add_lit] at this
    exact this
/-- The first part alone. -/
theorem Pl.one {W V : World} {p g n : Nat} {zs : List Int} (hp : HasC V p 28 #[.slice (some ⟨g, 0, none⟩) n n]) (hz : Ocm.Bytes V (some ⟨g, 0, none⟩) n n zs) (hlo : Below W.heap.size W V) (hw : W.heap.size ≤ p) (hne : g ≠ p) : Pl W V (.slice (some ⟨p, 0, none⟩) 1 1) [⟨some ⟨g, 0, none⟩, n, n, zs⟩] := by
  refine ⟨⟨rfl, .inr ⟨p, 1, #[.slice (some ⟨g, 0, none⟩) n n], rfl, hw, hp, Nat.le_refl _, by decide, rfl, rfl⟩⟩, fun q hq => ?_, fun q hq x hx hn e => ?_, hlo⟩
  · rw [List.mem_singleton] at hq
    subst hq
    exact hz
  · rw [List.mem_singleton] at hq
    subst hq
    cases hx
    simp [Value.ownBlock] at e
    exact hne e.symm

/-- The bytes of the first k registers. -/
def agB (i : Int) (n : In) : Nat → List Int
  | 0 => []
  | k + 1 => agB i n k ++ vint (i - 1 - rgN n k)
theorem agB_all (n : In) (i : Nat) (h : 0 ≤ Spn.ar n.op) : ([n.op] ++ agB i n (arN n)) ++ enK n = enI i n := by
  unfold enI enA u0 u1 u2 arN
  rcases ar_five n.op with e | e | e | e | e
  · omega
  all_goals
    rw [e]
    simp [agB, rgN]
theorem reg_ok {n : In} {i : Nat} (h : okI n i = true) {j : Nat} (hj : j < arN n) : 0 ≤ rgN n j ∧ 0 ≤ (i : Int) - 1 - rgN n j := by
  obtain ⟨h1, h2⟩ := ok_reg h hj
  exact ⟨h1, by omega⟩
theorem agB_len {n : In} {i : Nat} (h : okI n i = true) (hi : i ≤ 1000) : ∀ k, k ≤ arN n → (agB i n k).length ≤ 10 * k
  | 0, _ => by simp [agB]
  | k + 1, hk => by
    have := agB_len h hi k (by omega)
    have h2 := (Oct.vint_len ((i : Int) - 1 - rgN n k)).2
    simp only [agB, List.length_append]
    omega

set_option maxRecDepth 100000 in
set_option maxHeartbeats 4000000 in
theorem encinst_any {n : In} {i : Nat} (h : okI n i = true) (hi : i ≤ 1000) (W : World) : Calls Try.prog 24 #[.agg (ia n), .int .i64 i] W (ByP W (enI i n)) := by
  obtain ⟨o1, o2⟩ := op_byt (ok_ar h)
  have hop := byte_of o1 (by omega)
  have HN0 := hide (HasC.new W 51 (ia n))
  have HB0 := hide (bel1 W (.cells (ia n) 51))
  have HF := hide (agB_all n i (ok_ar h))
  have HAh := hide fun j (hj : j < arN n) W => ahead_any (rgN n j) i (reg_ok h hj).1 (reg_ok h hj).2 (by omega) W
  have HByt := hide fun j (hj : j < arN n) => Byts.vint (x := (i : Int) - 1 - rgN n j) (reg_ok h hj).2 (by have := (reg_ok h hj).1; omega)
  have HK := hide fun W => constants_any (ok_con h) W
  have HKb := hide (enK_byt (ok_con h))
  have hlen := enI_len h hi
  rw [← HF.out] at hlen
  have HLen := hide hlen
  have hm3 := arN_le n
  clear h hi hlen
  have e0 := HN0.out.cell 0 rfl
  have HA := hide fun W => cargs_ex n W
  go_enter Try.func24, Try.ntmps24
  go_wp2_with fail
  have hX1 := has_new1 W (.cells (ia n) 51) 5 #[.int .u8 n.op]
  have hB2 := bel1 ((W.alloc (.cells (ia n) 51)).alloc (.cells #[.int .u8 n.op] 5)) (.cells #[.slice (some ⟨W.heap.size + 1, 0, none⟩) 1 1] 28)
  have hX2 := HasC.new ((W.alloc (.cells (ia n) 51)).alloc (.cells #[.int .u8 n.op] 5)) 28 #[.slice (some ⟨W.heap.size + 1, 0, none⟩) 1 1]
  simp only [World.size_alloc] at hX2
  have HN1 := hide ((HN0.out.alloc (.cells #[.int .u8 n.op] 5)).alloc (.cells #[.slice (some ⟨W.heap.size + 1, 0, none⟩) 1 1] 28))
  have HB1 := hide (bel (bel HB0.out (bel1 _ (.cells #[.int .u8 n.op] 5))) hB2)
  obtain ⟨a', c', ea, hY, -⟩ := byt_own (own_one (hX1.below hB2) 0 (Nat.zero_le _)) (Byts.one o1 (by omega))
  cases ea
  have HP1 := hide (Pl.one hX2 hY HB1.out (by omega) (by omega))
  obtain ⟨V, hV⟩ : ∃ V, ((W.alloc (.cells (ia n) 51)).alloc (.cells #[.int .u8 n.op] 5)).alloc (.cells #[.slice (some ⟨W.heap.size + 1, 0, none⟩) 1 1] 28) = V := ⟨_, rfl⟩
  rw [hV] at HN1 HP1 ⊢
  clear hV hX1 hB2 hX2 hY HB1 HN0 HB0 e0
  obtain ⟨p, hp⟩ : ∃ p, W.heap.size + 1 + 1 = p := ⟨_, rfl⟩
  rw [hp] at HP1 ⊢
  clear hp
  refine (HA.out V).mono ?_
  rintro en V1 ⟨ga, rfl, -, hG, hb⟩
  have HG1 := hide hG
  have HN2 := hide (HN1.out.below hb)
  have HP2 := hide (HP1.out.below hb)
  obtain ⟨m, hm⟩ : ∃ m, arN n = m := ⟨_, rfl⟩
  rw [hm] at hm3 HAh HByt HF HLen ⊢
  clear hG hb hm HN1 HP1 HA hop o1 o2
  go_wp2_with fail
  go_loopw [5, 16] (fun pv iv wr => ∃ (k : Nat) (a : Option Addr) (c : Nat) (ps : List Part), k ≤ m ∧ iv = .int .i64 k ∧ pv = .slice a (k + 1) c ∧ Hid (ps.length = k + 1) ∧ Hid (joined ps = [n.op] ++ agB i n k) ∧ Hid (Pl W wr (.slice a (k + 1) c) ps) ∧ Hid (HasC wr W.heap.size 51 (ia n)) ∧ Hid (HasC wr ga 3 (zA (abc n)))) (fun _ iv _ => m - (intOf iv).toNat)
  case atStart => exact ⟨0, _, _, _, Nat.zero_le _, rfl, rfl, hide rfl, hide (by simp [joined, agB]), HP2, HN2, HG1⟩
  case round =>
    obtain ⟨k, a, c, ps, hk, rfl, rfl, HL, HJ, HP, HN, HG⟩ := hrel
    rename World => U
    clear HP2 HN2 HG1
    by_cases hlt : k < m
    · have j0 : (0 : Int) ≤ k := by omega
      have j1 : (k : Int) < m := by omega
      have g0 := HG.out.cell k (zA_get (abc n) k (by simp [abc]; omega))
      rw [abc_at n k (by omega)] at g0
      have HC := hide (HAh.out k hlt U)
      have HZ := hide (HByt.out k hlt)
      have HJ2 : Hid (joined ps ++ vint ((i : Int) - 1 - rgN n k) = [n.op] ++ agB i n (k + 1)) := hide (by rw [HJ.out, agB, List.append_assoc])
      generalize rgN n k = x at *
      clear HJ HAh HByt
      go_wp2_with fail
      refine HC.out.mono ?_
      rintro en w1 ⟨y, cy, rfl, hO, hb⟩
      have HR := hide (HP.out.ready hO hb HZ.out)
      have HN1 := hide ((HN.out.below hb).alloc (.cells #[.slice y (vint ((i : Int) - 1 - x)).length cy] 28))
      have HG1 := hide ((HG.out.below hb).alloc (.cells #[.slice y (vint ((i : Int) - 1 - x)).length cy] 28))
      clear hO hb HC HP HN HG g0
      go_wp2_with (at_builtin; refine pl_list HR.out (by rw [HL.out]; omega) rfl _ _ rfl rfl rfl ?_; intro a2 n2 c2 w2 hP hn hO; rw [HL.out] at hn; subst hn)
      have HP2 := hide hP
      have HN2 := hide (hO _ _ _ HN1.out (by decide))
      have HG2 := hide (hO _ _ _ HG1.out (by decide))
      clear hP hO HR HN1 HG1
      go_roundw
      case rel => exact ⟨k + 1, _, _, _, by omega, by go_num, rfl, hide (by rw [List.length_append, HL.out]; rfl), hide (by rw [joined_snoc]; exact HJ2.out), HP2, HN2, HG2⟩
      case measure => simp [intOf]; omega
    · obtain rfl : k = m := by omega
      have HC := hide (HK.out U)
      obtain ⟨e0, e1, e2, e3, e4, e5⟩ := six_of HN.out
      clear HAh HByt HK
      go_wp2_with fail
      refine HC.out.mono ?_
      rintro en w1 ⟨y, cy, rfl, hO, hb⟩
      have HR := hide (HP.out.ready hO hb HKb.out)
      clear hO hb HC HP HN HG e0 e1 e2 e3 e4 e5
      go_wp2_with (at_builtin; refine pl_list HR.out (by rw [HL.out]; omega) rfl _ _ rfl rfl rfl ?_; intro a2 n2 c2 w2 hP hn hO; rw [HL.out] at hn; subst hn)
      have hj : joined (ps ++ [⟨y, (enK n).length, cy, enK n⟩]) = enI i n := by
        rw [joined_snoc, HJ.out]
        exact HF.out
      have hle := HLen.out.2
      rw [HF.out] at hle
      have hJn := join_by (pc := c2) (hP.parts (by rw [List.length_append, HL.out]; rfl)) (by unfold maxLen; omega) (by rw [hj]; omega)
      rw [hj] at hJn
      have HJn := hide hJn
      have HB := hide hP.lo
      clear hJn hle hj hP hO HR
      go_wp2_with fail
      refine HJn.out.mono ?_
      rintro en w3 ⟨y2, c3, rfl, hO, hb⟩
      have HO := hide (Cde.own_mono hO HB.out.size)
      have HB3 := hide (bel HB.out hb)
      clear hO hb
      go_wp2_with fail
      go_ret
      exact ⟨_, _, rfl, HO.out, HB3.out⟩

end Go.Proofs.Pck
