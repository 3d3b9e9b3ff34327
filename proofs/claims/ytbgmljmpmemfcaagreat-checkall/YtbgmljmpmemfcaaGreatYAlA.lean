/-
 The law CheckAll, over any kind, tree and number.
-/
import Derived.Test.YtbgmljmpmemfcaaGreatYFfA
import Derived.Test.YtbgmljmpmemfcaaGreatYHeld
import Derived.Test.YtbgmljmpmemfcaaGreatYTaA
import Derived.Test.YtbgmljmpmemfcaaGreatYF4
namespace Go.Proofs.YtbgmljmpmemfcaaGreat
open Go.RowKit Go.IntWalk Lx Pz
set_option linter.unusedVariables false

/-- The arguments and what Roomy made of the tree, in a later world. -/
structure Ca (W V : World) (f d : Int) (na ba da : Option Addr) (nl nc bl bc dl dc g1 g2 g3 k1 k2 k3 p1 p2 : Nat) (root : Int) (NM : List Txt) (BS : List Int) (NS : List Nd) : Prop where
 old : Below W.heap.size W V
 X : Tx V na nl nc NM
 B : Iz V ba bl bc BS
 N : Nz V da dl dc NS
 X2 : Tx V (some ⟨g1, 0, none⟩) nl k1 NM
 B2 : Iz V (some ⟨g2, 0, none⟩) bl k2 BS
 N2 : Nz V (some ⟨g3, 0, none⟩) dl k3 NS
 c1 : V.cell? ⟨g1, nl, none⟩ = some (.string (sB spareT))
 c2 : V.cell? ⟨g2, bl, none⟩ = some (.int .i64 7777)
 c3 : V.cell? ⟨g3, dl * 9, none⟩ = some (.int .i64 7777)
 t : HasC V p1 28 #[.slice na nl nc, .slice ba bl bc, .slice da dl dc, .int .i64 root]
 u : HasC V p2 28 #[.slice (some ⟨g1, 0, none⟩) nl k1, .slice (some ⟨g2, 0, none⟩) bl k2, .slice (some ⟨g3, 0, none⟩) dl k3, .int .i64 root]
 k : HasC V W.heap.size 23 (kdA f d)
theorem Ca.later {W V : World} {f d : Int} {na ba da : Option Addr} {nl nc bl bc dl dc g1 g2 g3 k1 k2 k3 p1 p2 : Nat} {root : Int} {NM : List Txt} {BS : List Int} {NS : List Nd} {V' : World} (h : Ca W V f d na ba da nl nc bl bc dl dc g1 g2 g3 k1 k2 k3 p1 p2 root NM BS NS) (hb : Below V.heap.size V V') : Ca W V' f d na ba da nl nc bl bc dl dc g1 g2 g3 k1 k2 k3 p1 p2 root NM BS NS :=
 ⟨bel h.old hb, h.X.later hb, h.B.later hb, h.N.later hb, h.X2.later hb, h.B2.later hb, h.N2.later hb, below_cell hb h.c1, below_cell hb h.c2, below_cell hb h.c3, h.t.below hb, h.u.below hb, h.k.below hb⟩

theorem ck_z {f d : Int} {NM : List Txt} {BS : List Int} {NS : List Nd} {root : Int} (h : ckE f d NM BS NS root = 0) : chkP NM BS NS root = true ∧ (spR f d BS NS []).2 = 0 := by
 obtain ⟨-, h1, -, h2, -⟩ := ck_zero.1 h
 exact ⟨h1, h2⟩
/-- A report of the tree: how many spans, cost, depth, the spans. -/
def aN (f d : Int) (NM : List Txt) (BS : List Int) (NS : List Nd) (root : Int) : Nat := if ckE f d NM BS NS root = 0 then NS.length else 0
def aC (f d : Int) (NM : List Txt) (BS : List Int) (NS : List Nd) (root : Int) : Int := if ckE f d NM BS NS root = 0 then coR NS else 0
def aM (f d : Int) (NM : List Txt) (BS : List Int) (NS : List Nd) (root : Int) : Int := if ckE f d NM BS NS root = 0 then mxR (dpR BS NS []) else 0
def aS (f d : Int) (NM : List Txt) (BS : List Int) (NS : List Nd) (root : Int) : Sps := if ckE f d NM BS NS root = 0 then (spR f d BS NS []).1 else []
theorem aN_few (f d : Int) (NM : List Txt) (BS : List Int) (NS : List Nd) (root : Int) : aN f d NM BS NS root ≤ 1024 := by
 unfold aN
 split
 ·rename_i h
  obtain ⟨es, ex, hD⟩ := chk_dec.1 (ck_z h).1
  exact hD.few
 ·omega
theorem spans_none (W : World) : Spn.Spans W none 0 0 [] := ⟨rfl, Nat.le_refl _, by unfold maxLen; omega, fun _ => rfl, .inl rfl⟩
/-- The report's own spans: none, or a block of their own. -/
def Own (z n : Nat) (a : Option Addr) (V : World) : Prop := n = 0 ∨ ∃ g cs, a = some ⟨g, 0, none⟩ ∧ z ≤ g ∧ HasC V g 43 cs ∧ cs.size = 2 * n
theorem Own.later {z n : Nat} {a : Option Addr} {V V' : World} (h : Own z n a V) (hb : Below V.heap.size V V') : Own z n a V' := by
 rcases h with h | ⟨g, cs, h1, h2, h3, h4⟩
 ·exact .inl h
 ·exact .inr ⟨g, cs, h1, h2, h3.below hb, h4⟩
theorem sp64_len : ∀ S : Sps, (Spn.sp64 S).length = 2 * S.length
 | [] => rfl
 | x :: S => by
  have h := sp64_len S
  show (Spn.sp64 S).length + 1 + 1 = 2 * (S.length + 1)
  omega
/-- What both Checks answer, in one form. -/
def RpP (own : Bool) (w : World) (n : Nat) (co mx er : Int) (S : Sps) (e : Ending) (W' : World) : Prop :=
 ∃ a cap, e = .returned (.tuple #[.agg #[.slice a n cap, .int .i64 co, .int .i64 mx], .int .i64 er]) ∧ Spn.Spans W' a n cap S ∧ Below w.heap.size w W' ∧ (∀ b off, a = some ⟨b, off, none⟩ → w.heap.size ≤ b) ∧ (own = true → Own w.heap.size n a W')
theorem ck_rep {w W' : World} {f d : Int} {NM : List Txt} {BS : List Int} {NS : List Nd} {root : Int} {e : Ending} (h : CkP w f d NM BS NS root e W') : RpP true w (aN f d NM BS NS root) (aC f d NM BS NS root) (aM f d NM BS NS root) (ckE f d NM BS NS root) (aS f d NM BS NS root) e W' := by
 rcases h with ⟨h0, rfl, hb⟩ | ⟨h0, g, rfl, hg, hc, hb⟩
 ·refine ⟨none, 0, ?_, ?_, hb, fun b off h => by simp at h, fun _ => .inl (by unfold aN; rw [if_neg h0])⟩
  ·unfold aN aC aM; rw [if_neg h0, if_neg h0, if_neg h0]
  ·unfold aN aS; rw [if_neg h0, if_neg h0]; exact spans_none _
 ·have e1 : spR f d BS NS [] = ((spR f d BS NS []).1, 0) := Prod.ext rfl (ck_z h0).2
  have hl : (spR f d BS NS []).1.length = NS.length := by have := spR_len e1; simp at this; omega
  have hf := aN_few f d NM BS NS root
  unfold aN at hf
  rw [if_pos h0] at hf
  refine ⟨some ⟨g, 0, none⟩, NS.length, ?_, ?_, hb, fun b off h => by cases h; exact hg, fun _ => .inr ⟨g, _, rfl, hg, hc, ?_⟩⟩
  ·unfold aN aC aM; rw [if_pos h0, if_pos h0, if_pos h0, h0]
  ·unfold aN aS; rw [if_pos h0, if_pos h0, ← hl]; exact spans_has hc (by omega)
  ·unfold aN; rw [if_pos h0, List.size_toArray, sp64_len, hl]
theorem jk_rep {w W' : World} {f d : Int} {NM : List Txt} {BS : List Int} {NS : List Nd} {root : Int} {e : Ending} (h : JkP w f d NM BS NS root e W') : RpP false w (aN f d NM BS NS root) (aC f d NM BS NS root) (aM f d NM BS NS root) (ckE f d NM BS NS root) (aS f d NM BS NS root) e W' := by
 rcases h with ⟨h0, rfl, hb⟩ | ⟨h0, a, cap, rfl, hS, hb, hf⟩
 ·refine ⟨none, 0, ?_, ?_, hb, fun b off h => by simp at h, fun h => by simp at h⟩
  ·unfold aN aC aM; rw [if_neg h0, if_neg h0, if_neg h0]
  ·unfold aN aS; rw [if_neg h0, if_neg h0]; exact spans_none _
 ·refine ⟨a, cap, ?_, ?_, hb, hf, fun h => by simp at h⟩
  ·unfold aN aC aM; rw [if_pos h0, if_pos h0, if_pos h0, h0]
  ·unfold aN aS; rw [if_pos h0, if_pos h0]; exact hS
theorem spans_other {w : World} {a : Option Addr} {n cap : Nat} {L : Sps} (h : Spn.Spans w a n cap L) {p : Addr} (hne : ∀ b off, a = some ⟨b, off, none⟩ → b ≠ p.block) (u : Value) : Spn.Spans (w.setCell p u) a n cap L := by
 refine ⟨h.len, h.le, h.max, h.nil, ?_⟩
 rcases h.cell with h0 | ⟨b, off, ha, hc⟩
 ·exact .inl h0
 ·refine .inr ⟨b, off, ha, fun i hi => ?_⟩
  obtain ⟨c0, c1⟩ := hc i hi
  have hg := gset w p u
  have hlt : b < w.heap.size := World.block_lt_of_cell? w _ c0
  have hn : some b ≠ some p.block := fun e => hne b off ha (Option.some.inj e)
  exact ⟨(hg.cell_far ⟨b, off + i * 2, none⟩ hlt hn).trans c0, (hg.cell_far ⟨b, off + i * 2 + 1, none⟩ hlt hn).trans c1⟩

end Go.Proofs.YtbgmljmpmemfcaaGreat

/-
 The law CheckAll, over any kind, tree and number.
-/
namespace Go.Proofs.YtbgmljmpmemfcaaGreat
open Go.RowKit Go.IntWalk Lx Pz
set_option linter.unusedVariables false

set_option maxRecDepth 100000 in
set_option maxHeartbeats 16000000 in
theorem all_walk (f d x : Int) {W : World} {na ba da : Option Addr} {nl nc bl bc dl dc : Nat} {root : Int} {NM : List Txt} {BS : List Int} {NS : List Nd} (hX : Tx W na nl nc NM) (hB : Iz W ba bl bc BS) (hN : Nz W da dl dc NS) (hs : ∀ s ∈ NM, s.length ≤ 9223372036854775807)
  (hn1 : na = none → nl = 0 ∧ nc = 0) (hn2 : ba = none → bl = 0 ∧ bc = 0) (hn3 : da = none → dl = 0 ∧ dc = 0) (hs1 : (nl + 1) * 16 ≤ 140737488355328) (hs2 : (bl + 1) * 8 ≤ 140737488355328) (hs3 : (dl + 1) * 72 ≤ 140737488355328) :
  Calls Tryz.prog 3 #[.agg (kdA f d), .agg #[.slice na nl nc, .slice ba bl bc, .slice da dl dc, .int .i64 root], .int .i64 x] W fun e W' => e = .returned (.bool true) ∧ Below W.heap.size W W' := by
 have hb1 := bel1 W (.cells (kdA f d) 23)
 have hb0 := bel hb1 (bel1 (W.alloc (.cells (kdA f d) 23)) (.cells #[.slice na nl nc, .slice ba bl bc, .slice da dl dc, .int .i64 root] 28))
 have HR := hide (roomy_any (hX.later hb0) (hB.later hb0) (hN.later hb0) hn1 hn2 hn3 hs1 hs2 hs3 (root := root))
 have HT : Hid (HasC ((W.alloc (.cells (kdA f d) 23)).alloc (.cells #[.slice na nl nc, .slice ba bl bc, .slice da dl dc, .int .i64 root] 28)) (W.heap.size + 1) 28 #[.slice na nl nc, .slice ba bl bc, .slice da dl dc, .int .i64 root]) := hide (by
  have h := HasC.new (W.alloc (.cells (kdA f d) 23)) 28 #[.slice na nl nc, .slice ba bl bc, .slice da dl dc, .int .i64 root]
  rw [World.size_alloc] at h
  exact h)
 have HK := hide ((HasC.new W 23 (kdA f d)).alloc (.cells #[.slice na nl nc, .slice ba bl bc, .slice da dl dc, .int .i64 root] 28))
 have HX := hide (hX.later hb0)
 have HB := hide (hB.later hb0)
 have HN := hide (hN.later hb0)
 have HB0 := hide hb0
 have HE := hide fun (V : World) (g1 g2 g3 k1 k2 k3 p1 p2 : Nat) (h : Ca W V f d na ba da nl nc bl bc dl dc g1 g2 g3 k1 k2 k3 p1 p2 root NM BS NS) => (ccheck_any f d h.X2 h.B2 h.N2 hs (root := root)).mono fun e V' h => ck_rep h
 have HJ := hide fun (V : World) (g1 g2 g3 k1 k2 k3 p1 p2 : Nat) (h : Ca W V f d na ba da nl nc bl bc dl dc g1 g2 g3 k1 k2 k3 p1 p2 root NM BS NS) => (jcheck_any f d h.X h.B h.N hs (root := root)).mono fun e V' h => jk_rep h
 have hn := aN_few f d NM BS NS root
 generalize aN f d NM BS NS root = n at *
 generalize aC f d NM BS NS root = co at *
 generalize aM f d NM BS NS root = mx at *
 generalize aS f d NM BS NS root = S at *
 generalize ckE f d NM BS NS root = er at *
 clear hX hB hN hs hn1 hn2 hn3 hs1 hs2 hs3 hb0 hb1
 obtain ⟨t0, t1, t2, t3⟩ := facts4 HT.out
 go_enter Tryz.func3, Tryz.ntmps3
 go_wp2_with fail
 refine HR.out.mono ?_
 clear HR t0 t1 t2 t3
 rintro e V ⟨nv, bv, dv, rfl, h1, h2, h3, hb⟩
 obtain ⟨g1, k1, rfl, hX2, l1, m1, c1⟩ := h1.tx
 obtain ⟨g2, k2, rfl, hB2, l2, m2, c2⟩ := h2.iz
 obtain ⟨g3, k3, rfl, hN2, l3, m3, c3⟩ := h3.nz
 have hba := bel1 V (.cells #[.slice (some ⟨g1, 0, none⟩) nl k1, .slice (some ⟨g2, 0, none⟩) bl k2, .slice (some ⟨g3, 0, none⟩) dl k3, .int .i64 root] 28)
 have hbb := bel hb hba
 have HC := hide (show Ca W (V.alloc (.cells #[.slice (some ⟨g1, 0, none⟩) nl k1, .slice (some ⟨g2, 0, none⟩) bl k2, .slice (some ⟨g3, 0, none⟩) dl k3, .int .i64 root] 28)) f d na ba da nl nc bl bc dl dc g1 g2 g3 k1 k2 k3 (W.heap.size + 1) V.heap.size root NM BS NS from
  ⟨bel HB0.out hbb, HX.out.later hbb, HB.out.later hbb, HN.out.later hbb, hX2.later hba, hB2.later hba, hN2.later hba, below_cell hba c1, below_cell hba c2, below_cell hba c3, HT.out.below hbb, HasC.new _ _ _, HK.out.below hbb⟩)
 have HKV := hide (HK.out.below hb)
 have HL := hide (And.intro (And.intro l1 (And.intro l2 l3)) (And.intro m1 (And.intro m2 m3)))
 clear h1 h2 h3 hb hX2 hB2 hN2 c1 c2 c3 l1 l2 l3 m1 m2 m3 hba hbb HX HB HN HT HB0 HK
 obtain ⟨f0, f1, -, -⟩ := two_of HKV.out
 have zK := HKV.out.lt
 go_wp2_with fail
 obtain ⟨p2, hp2⟩ : ∃ p, V.heap.size = p := ⟨_, rfl⟩
 obtain ⟨V1, hV1⟩ : ∃ X, V.alloc (.cells #[.slice (some ⟨g1, 0, none⟩) nl k1, .slice (some ⟨g2, 0, none⟩) bl k2, .slice (some ⟨g3, 0, none⟩) dl k3, .int .i64 root] 28) = X := ⟨_, rfl⟩
 rw [hV1, hp2] at HC ⊢
 clear hV1 hp2 f0 f1 zK HKV
 refine (HE.out V1 _ _ _ _ _ _ _ _ HC.out).mono ?_
 rintro e V2 ⟨a1, e1, rfl, hS1, hb, -, ho⟩
 have hba := bel1 V2 (.cells #[.slice a1 n e1, .int .i64 co, .int .i64 mx] 32)
 have HC2 := hide (HC.out.later (bel hb hba))
 have HB2 := hide (bel hb hba)
 have HA2 := hide (HasC.new V2 32 #[.slice a1 n e1, .int .i64 co, .int .i64 mx])
 have HSa2 := hide (hS1.later hba)
 have HO2 := hide ((ho rfl).later hba)
 obtain ⟨t0, t1, t2, t3⟩ := facts4 (HC.out.later hb).t
 obtain ⟨f0, f1, -, -⟩ := two_of (HC.out.later hb).k
 have zT := (HC.out.later hb).t.lt
 have zK := (HC.out.later hb).k.lt
 clear hba hb hS1 ho
 go_wp2_with fail
 obtain ⟨pa, hpa⟩ : ∃ p, V2.heap.size = p := ⟨_, rfl⟩
 obtain ⟨V3, hV3⟩ : ∃ X, V2.alloc (.cells #[.slice a1 n e1, .int .i64 co, .int .i64 mx] 32) = X := ⟨_, rfl⟩
 rw [hV3] at HC2 HB2 HA2 HSa2 HO2 ⊢
 rw [hpa] at HA2 ⊢
 clear hV3 hpa t0 t1 t2 t3 f0 f1 zT zK
 refine (HJ.out V3 _ _ _ _ _ _ _ _ HC2.out).mono ?_
 rintro e V4 ⟨a2, e2, rfl, hS2, hb, hf2, -⟩
 have hba := bel1 V4 (.cells #[.slice a2 n e2, .int .i64 co, .int .i64 mx] 32)
 have hbb := bel hb hba
 have HC4 := hide (HC2.out.later hbb)
 have HB4 := hide (bel HB2.out hbb)
 have HA4 := hide (HA2.out.below hbb)
 have HSa4 := hide (HSa2.out.later hbb)
 have HO4 := hide (HO2.out.later hbb)
 have HBb4 := hide (HasC.new V4 32 #[.slice a2 n e2, .int .i64 co, .int .i64 mx])
 have HSb4 := hide (hS2.later hba)
 have HF2 := hide hf2
 have HZ3 := hide (show ∀ g cs, HasC V3 g 43 cs → g < V3.heap.size from fun g cs h => h.lt)
 have HO3 := hide HO2.out
 clear hba hbb hb hS2 hf2 HC2 HB2 HA2 HSa2 HO2
 go_wp2_with fail
 obtain ⟨pb, hpb⟩ : ∃ p, V4.heap.size = p := ⟨_, rfl⟩
 obtain ⟨V5, hV5⟩ : ∃ X, V4.alloc (.cells #[.slice a2 n e2, .int .i64 co, .int .i64 mx] 32) = X := ⟨_, rfl⟩
 rw [hV5] at HC4 HB4 HA4 HSa4 HO4 HBb4 HSb4 ⊢
 rw [hpb] at HBb4 ⊢
 clear hV5 hpb
 refine (awake_any _).mono ?_
 rintro e V6 ⟨rfl, hb⟩
 have HC6 := hide (HC4.out.later hb)
 have HB6 := hide (bel HB4.out hb)
 have HA6 := hide (HA4.out.below hb)
 have HSa6 := hide (HSa4.out.later hb)
 have HO6 := hide (HO4.out.later hb)
 have HBb6 := hide (HBb4.out.below hb)
 have HSb6 := hide (HSb4.out.later hb)
 clear hb HC4 HB4 HA4 HSa4 HO4 HBb4 HSb4
 obtain ⟨x0, x1, x2, -, -, -⟩ := three_of HA6.out
 obtain ⟨y0, y1, y2, -, -, -⟩ := three_of HBb6.out
 go_wp2_with fail
 refine (jsame_any co mx HSa6.out HSb6.out hn).mono ?_
 clear x0 x1 x2 y0 y1 y2
 rintro e V7 ⟨rfl, hb⟩
 have HC7 := hide (HC6.out.later hb)
 have HB7 := hide (bel HB6.out hb)
 have HA7 := hide (HA6.out.below hb)
 have HO7 := hide (HO6.out.later hb)
 have HBb7 := hide (HBb6.out.below hb)
 have HSb7 := hide (HSb6.out.later hb)
 clear hb HC6 HB6 HA6 HSa6 HO6 HBb6 HSb6
 obtain ⟨t0, t1, t2, t3⟩ := facts4 HC7.out.t
 obtain ⟨s0, s1, s2, s3⟩ := facts4 HC7.out.u
 have HL1 := HL.out
 have HH := hide (held_any HC7.out.X2 HC7.out.B2 HC7.out.N2 HC7.out.X HC7.out.B HC7.out.N HL1.1.1 HL1.1.2.1 HL1.1.2.2 HL1.2.1 HL1.2.2.1 HL1.2.2.2 HC7.out.c1 HC7.out.c2 HC7.out.c3 (root := root))
 clear HL1
 go_wp2_with fail
 refine HH.out.mono ?_
 clear HH t0 t1 t2 t3 s0 s1 s2 s3
 rintro e V8 ⟨rfl, hb⟩
 have HC8 := hide (HC7.out.later hb)
 have HB8 := hide (bel HB7.out hb)
 have HA8 := hide (HA7.out.below hb)
 have HO8 := hide (HO7.out.later hb)
 have HBb8 := hide (HBb7.out.below hb)
 have HSb8 := hide (HSb7.out.later hb)
 clear hb HC7 HB7 HA7 HO7 HBb7 HSb7
 have HCo := hide fun w => cost_any x w
 have HJo := hide fun w => jcost_any x w
 generalize coZ x = cx at *
 go_wp2_with fail
 refine (HCo.out _).mono ?_
 rintro e V9 ⟨rfl, rfl⟩
 go_wp2_with fail
 refine (HJo.out _).mono ?_
 rintro e V9 ⟨rfl, rfl⟩
 obtain ⟨t0, t1, t2, t3⟩ := facts4 HC8.out.u
 obtain ⟨f0, f1, -, -⟩ := two_of HC8.out.k
 go_wp2_with fail
 clear t0 t1 t2 t3 f0 f1
 refine (HE.out V9 _ _ _ _ _ _ _ _ HC8.out).mono ?_
 rintro e V10 ⟨a3, e3, rfl, hS3, hb, hf3, -⟩
 have hba := bel1 V10 (.cells #[.slice a3 n e3, .int .i64 co, .int .i64 mx] 32)
 have hbb := bel hb hba
 have HB11 := hide (bel HB8.out hbb)
 have HA11 := hide (HA8.out.below hbb)
 have HBb11 := hide (HBb8.out.below hbb)
 have HSb11 := hide (HSb8.out.later hbb)
 have HSc11 := hide (hS3.later hba)
 have HCc11 := hide (HasC.new V10 32 #[.slice a3 n e3, .int .i64 co, .int .i64 mx])
 have HG : Hid (n = 0 ∨ ∃ g cs, a1 = some ⟨g, 0, none⟩ ∧ V1.heap.size ≤ g ∧ (∀ b off, a2 = some ⟨b, off, none⟩ → b ≠ g) ∧ (∀ b off, a3 = some ⟨b, off, none⟩ → b ≠ g) ∧ HasC (V10.alloc (.cells #[.slice a3 n e3, .int .i64 co, .int .i64 mx] 32)) g 43 cs ∧ cs.size = 2 * n) := hide (by
  rcases HO3.out with h | ⟨g, cs, h1, h2, h3, h4⟩
  ·exact .inl h
  ·rcases HO8.out with h | ⟨g', cs', h1', h2', h3', h4'⟩
   ·exact .inl h
   ·rw [h1] at h1'
    cases h1'
    refine .inr ⟨g, cs', h1, h2, fun b off e => ?_, fun b off e => ?_, h3'.below hbb, h4'⟩
    ·have := HF2.out b off e; have := h3.lt; omega
    ·have := hf3 b off e; have := h3'.lt; omega)
 clear hba hbb hb hS3 hf3 HB8 HA8 HBb8 HSb8 HC8 HO8 HO3 HF2 HZ3
 go_wp2_with fail
 obtain ⟨pc, hpc⟩ : ∃ p, V10.heap.size = p := ⟨_, rfl⟩
 obtain ⟨V11, hV11⟩ : ∃ X, V10.alloc (.cells #[.slice a3 n e3, .int .i64 co, .int .i64 mx] 32) = X := ⟨_, rfl⟩
 rw [hV11] at HB11 HA11 HBb11 HSb11 HSc11 HCc11 HG ⊢
 rw [hpc] at HCc11 ⊢
 clear hV11 hpc
 go_loopw [14] (fun iv wr => ∃ i : Nat, i ≤ n ∧ iv = .int .i64 i ∧ Hid (Below V1.heap.size V1 wr) ∧ Hid (HasC wr pa 32 #[.slice a1 n e1, .int .i64 co, .int .i64 mx]) ∧ Hid (HasC wr pb 32 #[.slice a2 n e2, .int .i64 co, .int .i64 mx]) ∧ Hid (HasC wr pc 32 #[.slice a3 n e3, .int .i64 co, .int .i64 mx]) ∧ Hid (Spn.Spans wr a2 n e2 S) ∧ Hid (Spn.Spans wr a3 n e3 S) ∧ Hid (n = 0 ∨ ∃ g cs, a1 = some ⟨g, 0, none⟩ ∧ V1.heap.size ≤ g ∧ (∀ b off, a2 = some ⟨b, off, none⟩ → b ≠ g) ∧ (∀ b off, a3 = some ⟨b, off, none⟩ → b ≠ g) ∧ HasC wr g 43 cs ∧ cs.size = 2 * n)) (fun iv _ => n - (intOf iv).toNat)
 case atStart => exact ⟨0, Nat.zero_le _, rfl, hide HB11.out, hide HA11.out, hide HBb11.out, hide HCc11.out, hide HSb11.out, hide HSc11.out, hide HG.out⟩
 case round =>
  clear HB11 HA11 HBb11 HSb11 HSc11 HCc11 HG
  obtain ⟨i, hi, rfl, HB, HA, HBb, HCc, HSb, HSc, HG⟩ := hrel
  rename World => Vr
  obtain ⟨x0, x1, x2, -, -, -⟩ := three_of HA.out
  by_cases hlt : i < n
  ·rcases HG.out with h | ⟨g, cs, rfl, hz, hg2, hg3, hcs, hsz⟩
   ·omega
   have hi0 : (0 : Int) ≤ i := by omega
   have hi1 : (i : Int) < n := by omega
   have q0 := hcs.cell (i * 2) (Array.getElem?_eq_getElem (by omega))
   have q1 := hcs.cell (i * 2 + 1) (Array.getElem?_eq_getElem (by omega))
   have q2 := hcs.frozen (i * 2)
   have q3 := hcs.frozen (i * 2 + 1)
   have na' : pa ≠ g := fun e => by have h := HA.out; rw [e] at h; have := h.symm.trans hcs; simp at this
   have nb' : pb ≠ g := fun e => by have h := HBb.out; rw [e] at h; have := h.symm.trans hcs; simp at this
   have nc' : pc ≠ g := fun e => by have h := HCc.out; rw [e] at h; have := h.symm.trans hcs; simp at this
   have HB' := hide ((HB.out.setCell (p := ⟨g, i * 2, none⟩) hz (.int .i64 9)).setCell (p := ⟨g, i * 2 + 1, none⟩) hz (.int .i64 0))
   have HA' := hide ((HA.out.other (p := ⟨g, i * 2, none⟩) na' (.int .i64 9)).other (p := ⟨g, i * 2 + 1, none⟩) na' (.int .i64 0))
   have HBb' := hide ((HBb.out.other (p := ⟨g, i * 2, none⟩) nb' (.int .i64 9)).other (p := ⟨g, i * 2 + 1, none⟩) nb' (.int .i64 0))
   have HCc' := hide ((HCc.out.other (p := ⟨g, i * 2, none⟩) nc' (.int .i64 9)).other (p := ⟨g, i * 2 + 1, none⟩) nc' (.int .i64 0))
   have HSb' := hide (spans_other (spans_other HSb.out (p := ⟨g, i * 2, none⟩) hg2 (.int .i64 9)) (p := ⟨g, i * 2 + 1, none⟩) hg2 (.int .i64 0))
   have HSc' := hide (spans_other (spans_other HSc.out (p := ⟨g, i * 2, none⟩) hg3 (.int .i64 9)) (p := ⟨g, i * 2 + 1, none⟩) hg3 (.int .i64 0))
   have HG' := hide (show n = 0 ∨ ∃ g' cs, some (⟨g, 0, none⟩ : Addr) = some ⟨g', 0, none⟩ ∧ V1.heap.size ≤ g' ∧ (∀ b off, a2 = some ⟨b, off, none⟩ → b ≠ g') ∧ (∀ b off, a3 = some ⟨b, off, none⟩ → b ≠ g') ∧ HasC ((Vr.setCell ⟨g, i * 2, none⟩ (.int .i64 9)).setCell ⟨g, i * 2 + 1, none⟩ (.int .i64 0)) g' 43 cs ∧ cs.size = 2 * n from .inr ⟨g, _, rfl, hz, hg2, hg3, (hcs.set (i * 2) _).set (i * 2 + 1) _, by simp [hsz]⟩)
   clear HB HA HBb HCc HSb HSc HG hcs hg2 hg3
   go_wp2_with fail
   go_roundw
   case rel => exact ⟨i + 1, by omega, by go_num, hide HB'.out, hide HA'.out, hide HBb'.out, hide HCc'.out, hide HSb'.out, hide HSc'.out, hide HG'.out⟩
   case measure => simp [intOf]; omega
  ·obtain rfl : i = n := by omega
   have HC12 := hide (HC.out.later HB.out)
   obtain ⟨t0, t1, t2, t3⟩ := facts4 HC12.out.u
   obtain ⟨f0, f1, -, -⟩ := two_of HC12.out.k
   go_wp2_with fail
   clear t0 t1 t2 t3 f0 f1 x0 x1 x2
   refine (HE.out Vr _ _ _ _ _ _ _ _ HC12.out).mono ?_
   rintro e V13 ⟨a4, e4, rfl, hS4, hb, -, -⟩
   have hba := bel1 V13 (.cells #[.slice a4 i e4, .int .i64 co, .int .i64 mx] 32)
   have hbb := bel hb hba
   have HO14 := hide (bel HC12.out.old hbb)
   have HBb14 := hide (HBb.out.below hbb)
   have HCc14 := hide (HCc.out.below hbb)
   have HSb14 := hide (HSb.out.later hbb)
   have HSc14 := hide (HSc.out.later hbb)
   have HSd14 := hide (hS4.later hba)
   have HD14 := hide (HasC.new V13 32 #[.slice a4 i e4, .int .i64 co, .int .i64 mx])
   obtain ⟨y0, y1, y2, -, -, -⟩ := three_of (HBb.out.below hb)
   obtain ⟨z0, z1, z2, -, -, -⟩ := three_of (HCc.out.below hb)
   have zB := (HBb.out.below hb).lt
   have zC := (HCc.out.below hb).lt
   clear hba hbb hb hS4 HB HA HBb HCc HSb HSc HG HC12
   go_wp2_with fail
   obtain ⟨pd, hpd⟩ : ∃ p, V13.heap.size = p := ⟨_, rfl⟩
   obtain ⟨V14, hV14⟩ : ∃ X, V13.alloc (.cells #[.slice a4 i e4, .int .i64 co, .int .i64 mx] 32) = X := ⟨_, rfl⟩
   rw [hV14] at HO14 HBb14 HCc14 HSb14 HSc14 HSd14 HD14 ⊢
   rw [hpd] at HD14 ⊢
   clear hV14 hpd y0 y1 y2 z0 z1 z2 zB zC
   refine (jsame_any co mx HSc14.out HSb14.out hn).mono ?_
   rintro e V15 ⟨rfl, hb⟩
   have HO15 := hide (bel HO14.out hb)
   have HSb15 := hide (HSb14.out.later hb)
   have HSd15 := hide (HSd14.out.later hb)
   obtain ⟨y0, y1, y2, -, -, -⟩ := three_of (HBb14.out.below hb)
   obtain ⟨z0, z1, z2, -, -, -⟩ := three_of (HD14.out.below hb)
   clear hb
   go_wp2_with fail
   refine (jsame_any co mx HSd15.out HSb15.out hn).mono ?_
   rintro e V16 ⟨rfl, hb⟩
   have HO16 := hide (bel HO15.out hb)
   clear hb
   go_wp2_with fail
   go_ret
   exact ⟨rfl, HO16.out⟩

end Go.Proofs.YtbgmljmpmemfcaaGreat
