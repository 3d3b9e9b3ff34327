/-
  The closures of a chain: what lies in memory for one, and what the easy ones answer.
-/
import Derived.Test.YtihbhbeaihdgnaaGreatRGZB
import Derived.Deep.RegionHeld3
import Derived.Deep.AppendLies
import Derived.Lib.SliceRun
import Derived.Deep.CutRange
import Derived.Laws.EntriesVeiled
namespace Go.Proofs.Chn
open Go.RowKit Go.IntWalk YtihbhbeaihdgnaaGreat.Knd
open YtihbhbeaihdgnaaGreat (Wd wdA Fits inpV)
open Cde (In i0 ia kd cd Ins six_of four_of two_of has_new1 okI zA vlI arV arN abc)
set_option linter.unusedVariables false

/-- The closure of an instruction: a function, and what it captured, in memory from the block lo on. -/
inductive St (V : World) (lo : Nat) (f d : Int) (m : In) : Value → Prop
  | con (b : Nat) (x : Int) (hx : ∀ v D, vlI f d v D m = (x, 0)) (hb : lo ≤ b) (hc : HasC V b 3 #[.int .i64 x]) : St V lo f d m (.func (.func 80) #[] #[.pointer (some ⟨b, 0, none⟩)])
  | inx (hx : ∀ v D, vlI f d v D m = (v.x, 0)) : St V lo f d m (.func (.func 81) #[] #[])
  | iny (hx : ∀ v D, vlI f d v D m = (v.y, 0)) : St V lo f d m (.func (.func 82) #[] #[])
  | inc (hx : ∀ v D, vlI f d v D m = (v.c, 0)) : St V lo f d m (.func (.func 83) #[] #[])
  | place (b : Nat) (h3 : m.op = 3) (hb : lo ≤ b) (hc : HasC V b 41 (ia m)) : St V lo f d m (.func (.func 43) #[] #[.pointer (some ⟨b, 0, none⟩)])
  | opr (b q g : Nat) (h1 : m.op ≠ 1) (h2 : m.op ≠ 2) (h3 : m.op ≠ 3) (hb : lo ≤ b) (hq : lo ≤ q) (hg : lo ≤ g) (hc : HasC V b 41 (ia m)) (hr : HasC V q 42 #[.slice (some ⟨g, 0, none⟩) (arN m) 3]) (ha : HasC V g 3 (zA (abc m))) :
      St V lo f d m (.func (.func 86) #[] #[.pointer (some ⟨q, 0, none⟩), .pointer (some ⟨b, 0, none⟩)])
theorem St.form {V : World} {lo : Nat} {f d : Int} {m : In} {F : Value} (h : St V lo f d m F) : ∃ fn fs cp, F = .func fn fs cp := by cases h <;> exact ⟨_, _, _, rfl⟩
theorem St.later {V V' : World} {lo : Nat} {f d : Int} {m : In} {F : Value} (h : St V lo f d m F) (hb : Below V.heap.size V V') : St V' lo f d m F := by
  cases h with
  | con b x hx hl hc => exact .con b x hx hl (hc.below hb)
  | inx hx => exact .inx hx
  | iny hx => exact .iny hx
  | inc hx => exact .inc hx
  | place b h3 hl hc => exact .place b h3 hl (hc.below hb)
  | opr b q g h1 h2 h3 hl hq hg hc hr ha => exact .opr b q g h1 h2 h3 hl hq hg (hc.below hb) (hr.below hb) (ha.below hb)
theorem St.put {V : World} {lo : Nat} {f d : Int} {m : In} {F : Value} (h : St V lo f d m F) {g : Nat} (hn : g < lo) (i : Nat) (u : Value) : St (V.setCell ⟨g, i, none⟩ u) lo f d m F := by
  cases h with
  | con b x hx hl hc => exact .con b x hx hl (hc.other (p := ⟨g, i, none⟩) (by simp; omega) u)
  | inx hx => exact .inx hx
  | iny hx => exact .iny hx
  | inc hx => exact .inc hx
  | place b h3 hl hc => exact .place b h3 hl (hc.other (p := ⟨g, i, none⟩) (by simp; omega) u)
  | opr b q r h1 h2 h3 hl hq hg hc hr ha => exact .opr b q r h1 h2 h3 hl hq hg (hc.other (p := ⟨g, i, none⟩) (by simp; omega) u) (hr.other (p := ⟨g, i, none⟩) (by simp; omega) u) (ha.other (p := ⟨g, i, none⟩) (by simp; omega) u)
/-- A later first block. -/
theorem St.mono {V : World} {lo lo' : Nat} {f d : Int} {m : In} {F : Value} (h : St V lo f d m F) (hl : lo' ≤ lo) : St V lo' f d m F := by
  cases h with
  | con b x hx hb hc => exact .con b x hx (Nat.le_trans hl hb) hc
  | inx hx => exact .inx hx
  | iny hx => exact .iny hx
  | inc hx => exact .inc hx
  | place b h3 hb hc => exact .place b h3 (Nat.le_trans hl hb) hc
  | opr b q g h1 h2 h3 hb hq hg hc hr ha => exact .opr b q g h1 h2 h3 (Nat.le_trans hl hb) (Nat.le_trans hl hq) (Nat.le_trans hl hg) hc hr ha

theorem scon_any (x : Int) (v : Wd) (pa ra : Option Addr) (pl pc rn rc : Nat) {b : Nat} {W : World} (h : HasC W b 3 #[.int .i64 x]) :
    Calls Tryz.prog 80 #[.agg (wdA v pa pl pc), .slice ra rn rc, .pointer (some ⟨b, 0, none⟩)] W fun e W' => e = .returned (.int .i64 x) ∧ Below W.heap.size W W' := by
  have hb := bel1 W (.cells (wdA v pa pl pc) 44)
  have h0 := h.cell 0 rfl
  have hz := h.lt
  have HB := hide hb
  clear hb h
  go_enter Tryz.func80, Tryz.ntmps80
  go_wp2_with fail
  go_ret
  exact ⟨rfl, HB.out⟩
theorem sinx_any (v : Wd) (pa ra : Option Addr) (pl pc rn rc : Nat) (W : World) :
    Calls Tryz.prog 81 #[.agg (wdA v pa pl pc), .slice ra rn rc] W fun e W' => e = .returned (.int .i64 v.x) ∧ Below W.heap.size W W' := by
  have HB := hide (bel1 W (.cells (wdA v pa pl pc) 44))
  go_enter Tryz.func81, Tryz.ntmps81
  go_wp2_with fail
  go_ret
  exact ⟨rfl, HB.out⟩
theorem siny_any (v : Wd) (pa ra : Option Addr) (pl pc rn rc : Nat) (W : World) :
    Calls Tryz.prog 82 #[.agg (wdA v pa pl pc), .slice ra rn rc] W fun e W' => e = .returned (.int .i64 v.y) ∧ Below W.heap.size W W' := by
  have HB := hide (bel1 W (.cells (wdA v pa pl pc) 44))
  go_enter Tryz.func82, Tryz.ntmps82
  go_wp2_with fail
  go_ret
  exact ⟨rfl, HB.out⟩
theorem sinc_any (v : Wd) (pa ra : Option Addr) (pl pc rn rc : Nat) (W : World) :
    Calls Tryz.prog 83 #[.agg (wdA v pa pl pc), .slice ra rn rc] W fun e W' => e = .returned (.int .i64 v.c) ∧ Below W.heap.size W W' := by
  have HB := hide (bel1 W (.cells (wdA v pa pl pc) 44))
  go_enter Tryz.func83, Tryz.ntmps83
  go_wp2_with fail
  go_ret
  exact ⟨rfl, HB.out⟩
theorem cs_place {n : In} (h : Cde.csB n = true) (h3 : n.op = 3) : 0 ≤ n.k ∧ n.k ≤ 255 := by
  rw [Cde.csB, if_neg (by omega), if_neg (by omega), if_pos h3, Bool.and_eq_true, YtihbhbeaihdgnaaGreat.Spn.inB_iff] at h
  exact h.1
theorem splace_any {f d : Int} {m : In} {v : Wd} {D : List Int} {x : Int} {i : Nat} {pa : Option Addr} (ra : Option Addr) {pl pc : Nat} (rn rc : Nat) {b : Nat} {W : World} (h : HasC W b 41 (ia m)) (hP : Ints W pa pl pc v.ps) (hF : Fits f d v) (ho : okI m i = true) (h3 : m.op = 3) (hx : vlI f d v D m = (x, 0)) :
    Calls Tryz.prog 43 #[.agg (wdA v pa pl pc), .slice ra rn rc, .pointer (some ⟨b, 0, none⟩)] W fun e W' => e = .returned (.int .i64 x) ∧ Below W.heap.size W W' := by
  have hb := bel1 W (.cells (wdA v pa pl pc) 44)
  obtain ⟨k0, k5⟩ := cs_place (Cde.ok_con ho) h3
  obtain ⟨q, hq⟩ : ∃ q : Nat, m.k = (q : Int) := ⟨m.k.toNat, by omega⟩
  rw [vlI, if_neg (by omega), if_neg (by omega), if_pos h3] at hx
  have hlp := hP.len
  have hfl := Cde.fit_len hF
  rw [hlp] at hfl
  have hkc : ¬ YtihbhbeaihdgnaaGreat.Knd.countZ f d ≤ m.k := fun h => by rw [if_pos h] at hx; simp at hx
  rw [if_neg hkc, hq, Int.toNat_natCast] at hx
  have hql : q < pl := by omega
  have hx2 : v.ps.getD q 0 = x := congrArg Prod.fst hx
  obtain ⟨pb, po, rfl, -, hpat⟩ := (hP.later hb).at (by omega)
  have px := hpat q hql
  rw [hx2] at px
  have i0 : (0 : Int) ≤ q := by omega
  have i1 : (q : Int) < pl := by omega
  obtain ⟨-, -, -, -, f4, -⟩ := six_of (h.below hb)
  rw [hq] at f4
  have hz := h.lt
  have HB := hide hb
  clear hx hx2 hpat hfl hlp hkc k0 k5 h3 hP hF hb h hq
  go_enter Tryz.func43, Tryz.ntmps43
  go_wp2_with fail
  go_ret
  exact ⟨rfl, HB.out⟩

end Go.Proofs.Chn

/-
  A closure is made ready: always, input, operator, ready.
-/
namespace Go.Proofs.Chn
open Go.RowKit Go.IntWalk YtihbhbeaihdgnaaGreat.Knd
open YtihbhbeaihdgnaaGreat (Wd wdA Fits inpV)
open Cde (In i0 ia kd cd Ins six_of four_of two_of has_new1 zA vlI arN abc)
set_option linter.unusedVariables false

theorem halways_any (x : Int) (W : World) : Calls Tryz.prog 41 #[.int .i64 x] W fun e W' => e = .returned (.func (.func 80) #[] #[.pointer (some ⟨W.heap.size, 0, none⟩)]) ∧ HasC W' W.heap.size 3 #[.int .i64 x] ∧ Below W.heap.size W W' := by
  have hmf : ∀ (fn : Fn) (first cap : Array Value) (w : World), (Instr.makeFunc fn first cap).run Tryz.prog w = .ok (.func fn first cap) w := fun _ _ _ _ => rfl
  have HB := hide (bel1 W (.cells #[.int .i64 x] 3))
  have HC := hide (HasC.new W 3 #[.int .i64 x])
  go_enter Tryz.func41, Tryz.ntmps41
  go_wp2_with fail
  go_ret
  exact ⟨rfl, HC.out, HB.out⟩

/-- What ready answers. -/
def RyP (W : World) (f d : Int) (m : In) (e : Ending) (W' : World) : Prop := ∃ F, e = .returned F ∧ St W' W.heap.size f d m F ∧ Below W.heap.size W W'
theorem RyP.con {W V : World} {f d : Int} {m : In} {x : Int} (hx : ∀ v D, vlI f d v D m = (x, 0)) {b : Nat} (hl : W.heap.size ≤ b) (hc : HasC V b 3 #[.int .i64 x]) (hb : Below W.heap.size W V) : RyP W f d m (.returned (.func (.func 80) #[] #[.pointer (some ⟨b, 0, none⟩)])) V :=
  ⟨_, rfl, .con _ x hx hl hc, hb⟩

set_option maxRecDepth 100000 in
set_option maxHeartbeats 4000000 in
theorem hinput_any (f d : Int) (m : In) (h2 : m.op = 2) (W : World) : Calls Tryz.prog 42 #[.agg (kd f d), .int .i64 m.k] W (RyP W f d m) := by
  have hv : ∀ v D, vlI f d v D m = (inpV f d v m.k, 0) := fun v D => by rw [vlI, if_neg (by omega), if_pos h2]
  have HB := hide (bel1 W (.cells (kd f d) 23))
  have HK := hide (HasC.new W 23 (kd f d))
  have HA := hide fun x V => halways_any x V
  have HL := hide fun V => YtihbhbeaihdgnaaGreat.Knd.low_any f d V
  have HH := hide fun V => YtihbhbeaihdgnaaGreat.Knd.high_any f d V
  have HO := hide fun V => YtihbhbeaihdgnaaGreat.Knd.border_any f d V
  clear h2
  generalize m.k = k at *
  by_cases h0 : k = 0
  · subst h0
    have HV := hide (show ∀ v D, vlI f d v D m = (v.x, 0) from fun v D => hv v D)
    clear hv
    go_enter Tryz.func42, Tryz.ntmps42
    go_wp2_with fail
    go_ret
    exact ⟨_, rfl, .inx HV.out, HB.out⟩
  by_cases h1 : k = 1
  · subst h1
    have HV := hide (show ∀ v D, vlI f d v D m = (v.y, 0) from fun v D => hv v D)
    clear hv
    go_enter Tryz.func42, Tryz.ntmps42
    go_wp2_with fail
    go_ret
    exact ⟨_, rfl, .iny HV.out, HB.out⟩
  by_cases h2 : k = 2
  · subst h2
    have HV := hide (show ∀ v D, vlI f d v D m = (v.c, 0) from fun v D => hv v D)
    clear hv
    go_enter Tryz.func42, Tryz.ntmps42
    go_wp2_with fail
    go_ret
    exact ⟨_, rfl, .inc HV.out, HB.out⟩
  obtain ⟨x0, x1⟩ := two_of HK.out
  by_cases h3 : k = 3
  · subst h3
    have HV := hide (show ∀ v D, vlI f d v D m = (lowZ f d, 0) from fun v D => hv v D)
    clear hv h0 h1 h2
    go_enter Tryz.func42, Tryz.ntmps42
    go_wp2_with fail
    refine (HL.out _).mono ?_
    rintro e V1 ⟨rfl, hb⟩
    have HB1 := hide (bel HB.out hb)
    clear hb
    go_wp2_with fail
    refine (HA.out _ _).mono ?_
    rintro e V2 ⟨rfl, hc, hb⟩
    have HC2 := hide hc
    have HB2 := hide (bel HB1.out hb)
    clear hc hb
    go_wp2_with fail
    go_ret
    exact RyP.con HV.out HB1.out.size HC2.out HB2.out
  by_cases h4 : k = 4
  · subst h4
    have HV := hide (show ∀ v D, vlI f d v D m = (highZ f d, 0) from fun v D => hv v D)
    clear hv h0 h1 h2 h3
    go_enter Tryz.func42, Tryz.ntmps42
    go_wp2_with fail
    refine (HH.out _).mono ?_
    rintro e V1 ⟨rfl, hb⟩
    have HB1 := hide (bel HB.out hb)
    clear hb
    go_wp2_with fail
    refine (HA.out _ _).mono ?_
    rintro e V2 ⟨rfl, hc, hb⟩
    have HC2 := hide hc
    have HB2 := hide (bel HB1.out hb)
    clear hc hb
    go_wp2_with fail
    go_ret
    exact RyP.con HV.out HB1.out.size HC2.out HB2.out
  have HV := hide (show ∀ v D, vlI f d v D m = (borderZ f d, 0) from fun v D => by rw [hv v D, inpV, if_neg h0, if_neg h1, if_neg h2, if_neg h3, if_neg h4])
  have q0 : (k == 0) = false := by simpa using h0
  have q1 : (k == 1) = false := by simpa using h1
  have q2 : (k == 2) = false := by simpa using h2
  have q3 : (k == 3) = false := by simpa using h3
  have q4 : (k == 4) = false := by simpa using h4
  clear hv h0 h1 h2 h3 h4
  go_enter Tryz.func42, Tryz.ntmps42
  go_wp2_with fail
  refine (HO.out _).mono ?_
  rintro e V1 ⟨rfl, hb⟩
  have HB1 := hide (bel HB.out hb)
  clear hb
  go_wp2_with fail
  refine (HA.out _ _).mono ?_
  rintro e V2 ⟨rfl, hc, hb⟩
  have HC2 := hide hc
  have HB2 := hide (bel HB1.out hb)
  clear hc hb
  go_wp2_with fail
  go_ret
  exact RyP.con HV.out HB1.out.size HC2.out HB2.out

set_option maxRecDepth 100000 in
set_option maxHeartbeats 4000000 in
theorem hoperator_any (f d : Int) (m : In) (h1 : m.op ≠ 1) (h2 : m.op ≠ 2) (h3 : m.op ≠ 3) (W : World) : Calls Tryz.prog 44 #[.agg (ia m)] W (RyP W f d m) := by
  have hmf : ∀ (fn : Fn) (first cap : Array Value) (w : World), (Instr.makeFunc fn first cap).run Tryz.prog w = .ok (.func fn first cap) w := fun _ _ _ _ => rfl
  have HB := hide (bel1 W (.cells (ia m) 41))
  have HC := hide (HasC.new W 41 (ia m))
  have HA := hide fun V => Cde.cargs_any m V
  have HR := hide (show ∀ (V : World) (b q g : Nat) (hb : W.heap.size ≤ b) (hq : W.heap.size ≤ q) (hg : W.heap.size ≤ g) (hc : HasC V b 41 (ia m)) (hr : HasC V q 42 #[.slice (some ⟨g, 0, none⟩) (arN m) 3]) (ha : HasC V g 3 (zA (abc m))), St V W.heap.size f d m (.func (.func 86) #[] #[.pointer (some ⟨q, 0, none⟩), .pointer (some ⟨b, 0, none⟩)]) from fun V b q g hb hq hg hc hr ha => .opr b q g h1 h2 h3 hb hq hg hc hr ha)
  obtain ⟨f0, f1, f2, f3, f4, f5⟩ := six_of HC.out
  clear h1 h2 h3
  go_enter Tryz.func44, Tryz.ntmps44
  go_wp2_with fail
  refine (HA.out _).mono ?_
  rintro e V1 ⟨rfl, hg, hb⟩
  rw [World.size_alloc] at hg ⊢
  have hb2 := bel1 V1 (.cells #[.slice (some ⟨W.heap.size + 1 + 1, 0, none⟩) (arN m) 3] 42)
  have HC2 := hide ((HC.out.below hb).below hb2)
  have HG2 := hide (hg.below hb2)
  have HQ2 := hide (HasC.new V1 42 #[.slice (some ⟨W.heap.size + 1 + 1, 0, none⟩) (arN m) 3])
  have HB1 := hide (bel HB.out hb)
  have HB2 := hide (bel HB1.out hb2)
  clear hb hb2 hg f0 f1 f2 f3 f4 f5
  go_wp2_with fail
  go_ret
  exact ⟨_, rfl, HR.out _ _ _ _ (Nat.le_refl _) HB1.out.size (by omega) HC2.out HQ2.out HG2.out, HB2.out⟩

set_option maxRecDepth 100000 in
set_option maxHeartbeats 4000000 in
theorem hready_any (f d : Int) (m : In) (W : World) : Calls Tryz.prog 19 #[.agg (kd f d), .agg (ia m)] W (RyP W f d m) := by
  have hmf : ∀ (fn : Fn) (first cap : Array Value) (w : World), (Instr.makeFunc fn first cap).run Tryz.prog w = .ok (.func fn first cap) w := fun _ _ _ _ => rfl
  have hb1 := bel (bel1 W (.cells (kd f d) 23)) (bel1 (W.alloc (.cells (kd f d) 23)) (.cells (ia m) 41))
  have HK := hide ((HasC.new W 23 (kd f d)).alloc (.cells (ia m) 41))
  have HC := hide (has_new1 W (.cells (kd f d) 23) 41 (ia m))
  have HB := hide hb1
  clear hb1
  obtain ⟨x0, x1⟩ := two_of HK.out
  obtain ⟨f0, f1, f2, f3, f4, f5⟩ := six_of HC.out
  by_cases h1 : m.op = 1
  · have p1 : (m.op == 1) = true := by simpa using h1
    have HV := hide (show ∀ v D, vlI f d v D m = (m.k, 0) from fun v D => by rw [vlI, if_pos h1])
    have HA := hide fun V => halways_any m.k V
    clear h1
    go_enter Tryz.func19, Tryz.ntmps19
    go_wp2_with fail
    refine (HA.out _).mono ?_
    rintro e V2 ⟨rfl, hc, hb⟩
    rw [World.size_alloc, World.size_alloc] at hc
    have HC2 := hide hc
    have HB2 := hide (bel HB.out hb)
    clear hc hb
    go_wp2_with fail
    go_ret
    exact RyP.con HV.out (by omega) HC2.out HB2.out
  have p1 : (m.op == 1) = false := by simpa using h1
  by_cases h2 : m.op = 2
  · have p2 : (m.op == 2) = true := by simpa using h2
    have HI := hide fun V => hinput_any f d m h2 V
    clear h1 h2
    go_enter Tryz.func19, Tryz.ntmps19
    go_wp2_with fail
    refine (HI.out _).mono ?_
    rintro e V2 ⟨F, rfl, hS, hb⟩
    have HS2 := hide (hS.mono HB.out.size)
    have HB2 := hide (bel HB.out hb)
    clear hS hb
    go_wp2_with fail
    go_ret
    exact ⟨_, rfl, HS2.out, HB2.out⟩
  have p2 : (m.op == 2) = false := by simpa using h2
  by_cases h3 : m.op = 3
  · have p3 : (m.op == 3) = true := by simpa using h3
    have H3 := hide h3
    clear h1 h2 h3
    go_enter Tryz.func19, Tryz.ntmps19
    go_wp2_with fail
    go_ret
    exact ⟨_, rfl, .place _ H3.out (by simp) HC.out, HB.out⟩
  have p3 : (m.op == 3) = false := by simpa using h3
  have HI := hide fun V => hoperator_any f d m h1 h2 h3 V
  clear h1 h2 h3
  go_enter Tryz.func19, Tryz.ntmps19
  go_wp2_with fail
  refine (HI.out _).mono ?_
  rintro e V2 ⟨F, rfl, hS, hb⟩
  have HS2 := hide (hS.mono HB.out.size)
  have HB2 := hide (bel HB.out hb)
  clear hS hb
  go_wp2_with fail
  go_ret
  exact ⟨_, rfl, HS2.out, HB2.out⟩

end Go.Proofs.Chn

/-
  The closure of an operator.
-/
namespace Go.Proofs.Chn
open Go.RowKit Go.IntWalk YtihbhbeaihdgnaaGreat.Knd
open YtihbhbeaihdgnaaGreat (Wd wdA Fits inpV)
open Cde (In i0 ia kd cd Ins six_of four_of two_of has_new1 okI zA zA_get put_z vlI arV arN abc rgN arV_len arV_at arM arM_len take_snoc getD_pre z_pre spn ok_reg abc_at)
set_option linter.unusedVariables false

/-- What stands in the array of arguments behind k rounds. -/
def agM (D : List Int) (n : In) (k : Nat) : List Int := (arV D n).take k ++ List.replicate (3 - k) 0
theorem agM_zero (D : List Int) (n : In) : agM D n 0 = [0, 0, 0] := rfl
theorem agM_len (D : List Int) (n : In) {k : Nat} (h : k ≤ arN n) : (agM D n k).length = 3 := by
  have := Cde.arN_le n
  simp [agM, arV_len]
  omega
theorem agM_split (D : List Int) (n : In) {k : Nat} (h : k < arN n) : agM D n k = (arV D n).take k ++ 0 :: List.replicate (3 - (k + 1)) 0 := by
  have := Cde.arN_le n
  rw [agM, show 3 - k = (3 - (k + 1)) + 1 by omega, List.replicate_succ]
theorem agM_succ (D : List Int) (n : In) {k : Nat} (h : k < arN n) : (arV D n).take k ++ D.getD (rgN n k).toNat 0 :: List.replicate (3 - (k + 1)) 0 = agM D n (k + 1) := by
  rw [agM, take_snoc 0 (by rw [arV_len]; exact h), arV_at D n k h]
  simp
theorem agM_done (D : List Int) (n : In) : agM D n (arN n) = arV D n ++ List.replicate (3 - arN n) 0 := by
  rw [agM, List.take_of_length_le (by rw [arV_len]; exact Nat.le_refl _)]

theorem put_zt {W : World} {t : TypeId} {g k : Nat} {D Z : List Int} {q : Int} (h : HasC W g t (zA (D ++ q :: Z))) (hk : D.length = k) (x : Int) : HasC (W.setCell ⟨g, k, none⟩ (.int .i64 x)) g t (zA (D ++ x :: Z)) := by
  subst hk
  have := h.set D.length (.int .i64 x)
  have e : (zA (D ++ q :: Z)).setIfInBounds D.length (.int .i64 x) = zA (D ++ x :: Z) := by
    apply Array.toList_inj.1
    simp only [Array.toList_setIfInBounds, List.map_append, List.map_cons]
    rw [List.set_append_right _ _ (by simp)]
    simp
  rwa [e] at this
theorem zt_pre {W : World} {t : TypeId} {g : Nat} {L M : List Int} (h : HasC W g t (zA (L ++ M))) (hl : (L ++ M).length = 3) : Ints W (some ⟨g, 0, none⟩) L.length 3 L := by
  have h2 : L.length ≤ 3 := by rw [← hl]; simp
  refine ⟨rfl, h2, by decide, (fun h => by cases h), .inr ⟨g, 0, rfl, fun i hi => ?_⟩⟩
  rw [Nat.zero_add, h.cell i (zA_get _ i (by simp; omega)), getD_pre hi]

set_option maxRecDepth 100000 in
set_option maxHeartbeats 4000000 in
theorem sopr_any {f d : Int} {m : In} {v : Wd} {D : List Int} {x : Int} {i : Nat} (pa : Option Addr) {ra : Option Addr} (pl pc : Nat) {rn rc : Nat} {b q g : Nat} {W : World} (hc : HasC W b 41 (ia m)) (hr : HasC W q 42 #[.slice (some ⟨g, 0, none⟩) (arN m) 3]) (ha : HasC W g 3 (zA (abc m))) (hV : Ints W ra rn rc D) (ho : okI m i = true) (hi : i ≤ rn) (h1 : m.op ≠ 1) (h2 : m.op ≠ 2) (h3 : m.op ≠ 3) (hx : vlI f d v D m = (x, 0)) :
    Calls Tryz.prog 86 #[.agg (wdA v pa pl pc), .slice ra rn rc, .pointer (some ⟨q, 0, none⟩), .pointer (some ⟨b, 0, none⟩)] W fun e W' => e = .returned (.int .i64 x) ∧ Below W.heap.size W W' := by
  have HC0 := hide hc
  have HR0 := hide hr
  have HA0 := hide ha
  have HV0 := hide hV
  have HM0 := hide (has_new1 W (.cells (wdA v pa pl pc) 44) 138 (zA [0, 0, 0]))
  have HB0 := hide (bel (bel1 W (.cells (wdA v pa pl pc) 44)) (bel1 _ (.cells (zA [0, 0, 0]) 138)))
  have hv : YtihbhbeaihdgnaaGreat.Spn.valZ m.op m.k m.s (arV D m) = (x, 0) := by rw [vlI, if_neg h1, if_neg h2, if_neg h3] at hx; exact hx
  have HVl := hide hv
  have HReg := hide fun j hj => ok_reg ho (j := j) hj
  have HS := hide fun k (h : k < arN m) => agM_split D m h
  have HU := hide fun k (h : k < arN m) => agM_succ D m h
  have HLn := hide fun k (h : k ≤ arN m) => agM_len D m h
  have HD := hide (agM_done D m)
  have HAl := hide (arV_len D m)
  have H00 : Hid (agM D m 0 = [0, 0, 0]) := hide rfl
  have h3' := Cde.arN_le m
  have HAb := hide fun j (h : j < 3) => (zA_get (abc m) j (by simpa [abc] using h)).trans (by rw [abc_at m j h])
  have hq0 := hr.lt
  have r0 := hr.cell 0 rfl
  clear hc ha hV hr ho h1 h2 h3 hx hv
  generalize agM D m = M at *
  generalize arN m = n at *
  go_enter Tryz.func86, Tryz.ntmps86
  go_wp2_with fail
  clear r0
  go_loopw [14] (fun j wr => ∃ k : Nat, k ≤ n ∧ j = .int .i64 k ∧ Hid (HasC wr (W.heap.size + 1) 138 (zA (M k))) ∧ Hid (Below W.heap.size W wr)) (fun j _ => n - (intOf j).toNat)
  case atStart => exact ⟨0, Nat.zero_le _, rfl, hide (by rw [H00.out]; exact HM0.out), HB0⟩
  case round =>
    obtain ⟨k, hk, rfl, HM, HB⟩ := hrel
    rename World => V2
    clear HM0 HB0
    by_cases hlt : k < n
    · obtain ⟨p0, p1⟩ := HReg.out k hlt
      have c0 := (HA0.out.below HB.out).cell k (HAb.out k (by omega))
      have HX := HM.out
      have hl3 := HLn.out k hk
      have w1 := HX.cell k (zA_get _ k (by rw [hl3]; omega))
      rw [HS.out k hlt] at HX
      have HX2 := hide fun x => put_zt (k := k) HX (by rw [List.length_take, HAl.out]; omega) x
      have HU2 := hide (HU.out k hlt)
      have y0 := HM.out.frozen k
      obtain ⟨p, hp⟩ : ∃ p : Nat, rgN m k = (p : Int) := ⟨(rgN m k).toNat, by omega⟩
      rw [hp] at c0 p1 HU2
      simp only [Int.toNat_natCast] at p1 HU2
      obtain ⟨rb, ro, rfl, -, hat⟩ := (HV0.out.later HB.out).at (by omega)
      have c1 := hat p (by omega)
      generalize D.getD p 0 = z at *
      have HX3 := hide (HX2.out z)
      rw [HU2.out] at HX3
      have HB4 := hide (HB.out.setCell (p := ⟨W.heap.size + 1, k, none⟩) (by simp) (.int .i64 z))
      have i0 : (0 : Int) ≤ p := by omega
      have i1 : (p : Int) < rn := by omega
      have j0 : (0 : Int) ≤ k := by omega
      have j1 : (k : Int) < n := by omega
      have j3 : (k : Int) < 3 := by omega
      clear HX HX2 HU2 hat hp p0 p1 hl3
      go_wp2_with fail
      go_roundw
      case rel => exact ⟨k + 1, by omega, by go_num, HX3, HB4⟩
      case measure => simp [intOf]; omega
    · obtain rfl : k = n := by omega
      have hI := HM.out
      rw [HD.out] at hI
      have hI2 := zt_pre hI (by rw [← HD.out]; exact HLn.out k (Nat.le_refl _))
      rw [HAl.out] at hI2
      have HVa := hide fun (V : World) (hb : Below V2.heap.size V2 V) => YtihbhbeaihdgnaaGreat.Spn.value_any m.op m.k m.s _ _ _ _ V (spn (hI2.later hb))
      rw [HVl.out] at HVa
      obtain ⟨e0, -, -, -, e4, e5⟩ := six_of (HC0.out.below HB.out)
      have x0 := (HR0.out.below HB.out).cell 0 rfl
      have k0 := cell_regrown e0
      have k1 := cell_regrown e4
      have k2 := cell_regrown e5
      have k3 := cell_regrown x0
      have j3 : (k : Int) ≤ 3 := by omega
      clear hI hI2
      go_wp2_with fail
      refine wp_region_quiet_below Cde.mixed0 (by kernel_rfl) ?_
      repeat (go_big_quiet_step (fail))
      go_big_quiet_step ((go_at_call 87; exact Calls.regrown_of (HVa.out _ (below_regrown _ _ _))))
      repeat (go_big_quiet_step (fail))
      refine wpQuiet_nil ?_
      intro V3 hw'
      obtain ⟨⟨dq, osq⟩, hw''⟩ := hw'
      have hb := below_regrown V2 dq osq
      simp only at hw''
      rw [← hw''] at hb
      have HB3 := hide (bel HB.out hb)
      clear hb hw'' k0 k1 k2 k3 e0 e4 e5 x0
      go_wp2_with fail
      go_ret
      exact ⟨rfl, HB3.out⟩

end Go.Proofs.Chn
