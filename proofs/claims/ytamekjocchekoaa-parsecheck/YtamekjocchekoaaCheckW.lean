/-
  The law ParseCheck, over any tree in memory.
-/
import Derived.Test.YtamekjocchekoaaHeld
import Derived.Test.YtamekjocchekoaaGrAC
import Derived.Test.YtamekjocchekoaaSnd
namespace Go.Proofs.Ytamekjocchekoaa
open Go.RowKit Go.IntWalk Lx Pz
set_option linter.unusedVariables false

/-- The argument and what Roomy made of it, in a later world. -/
structure Ce (W V : World) (na ba da : Option Addr) (nl nc bl bc dl dc g1 g2 g3 k1 k2 k3 p1 p2 : Nat) (root : Int) (NM : List Txt) (BS : List Int) (NS : List Nd) : Prop where
  old : Below W.heap.size W V
  X : Tx V na nl nc NM
  B : Iz V ba bl bc BS
  N : Nz V da dl dc NS
  X2 : Tx V (some ⟨g1, 0, none⟩) nl k1 NM
  B2 : Iz V (some ⟨g2, 0, none⟩) bl k2 BS
  N2 : Nz V (some ⟨g3, 0, none⟩) dl k3 NS
  c1 : V.cell? ⟨g1, nl, none⟩ = some (.string (sB spareT))
  c2 : V.cell? ⟨g2, bl, none⟩ = some (.int .i64 7777)
  c3 : V.cell? ⟨g3, dl * 9, none⟩ = some (.int .i64 7777)
  t : HasC V p1 26 #[.slice na nl nc, .slice ba bl bc, .slice da dl dc, .int .i64 root]
  u : HasC V p2 26 #[.slice (some ⟨g1, 0, none⟩) nl k1, .slice (some ⟨g2, 0, none⟩) bl k2, .slice (some ⟨g3, 0, none⟩) dl k3, .int .i64 root]
theorem Ce.later {W V V' : World} {na ba da : Option Addr} {nl nc bl bc dl dc g1 g2 g3 k1 k2 k3 p1 p2 : Nat} {root : Int} {NM : List Txt} {BS : List Int} {NS : List Nd} (h : Ce W V na ba da nl nc bl bc dl dc g1 g2 g3 k1 k2 k3 p1 p2 root NM BS NS) (hb : Below V.heap.size V V') : Ce W V' na ba da nl nc bl bc dl dc g1 g2 g3 k1 k2 k3 p1 p2 root NM BS NS :=
  ⟨bel h.old hb, h.X.later hb, h.B.later hb, h.N.later hb, h.X2.later hb, h.B2.later hb, h.N2.later hb, below_cell hb h.c1, below_cell hb h.c2, below_cell hb h.c3, h.t.below hb, h.u.below hb⟩

set_option maxRecDepth 100000 in
set_option maxHeartbeats 8000000 in
theorem check_walk {W : World} {na ba da : Option Addr} {nl nc bl bc dl dc : Nat} {root : Int} {NM : List Txt} {BS : List Int} {NS : List Nd} (hX : Tx W na nl nc NM) (hB : Iz W ba bl bc BS) (hN : Nz W da dl dc NS) (hs : ∀ s ∈ NM, s.length ≤ 9223372036854775807)
    (hn1 : na = none → nl = 0 ∧ nc = 0) (hn2 : ba = none → bl = 0 ∧ bc = 0) (hn3 : da = none → dl = 0 ∧ dc = 0) (hs1 : (nl + 1) * 16 ≤ 140737488355328) (hs2 : (bl + 1) * 8 ≤ 140737488355328) (hs3 : (dl + 1) * 72 ≤ 140737488355328) :
    Calls Try.prog 5 #[.agg #[.slice na nl nc, .slice ba bl bc, .slice da dl dc, .int .i64 root]] W fun e W' => e = .returned (.bool true) ∧ Below W.heap.size W W' := by
  have hb0 := bel1 W (.cells #[.slice na nl nc, .slice ba bl bc, .slice da dl dc, .int .i64 root] 26)
  have HR := hide (roomy_any (hX.later hb0) (hB.later hb0) (hN.later hb0) hn1 hn2 hn3 hs1 hs2 hs3 (root := root))
  have HT := hide (HasC.new W 26 #[.slice na nl nc, .slice ba bl bc, .slice da dl dc, .int .i64 root])
  have HX := hide (hX.later hb0)
  have HB := hide (hB.later hb0)
  have HN := hide (hN.later hb0)
  have HS := hide hs
  have HB0 := hide hb0
  clear hX hB hN hs hn1 hn2 hn3 hs1 hs2 hs3 hb0
  obtain ⟨t0, t1, t2, t3⟩ := facts4 HT.out
  go_enter Try.func5, Try.ntmps5
  go_wp2_with fail
  refine HR.out.mono ?_
  clear HR t0 t1 t2 t3
  rintro e V ⟨nv, bv, dv, rfl, h1, h2, h3, hb⟩
  obtain ⟨g1, k1, rfl, hX2, l1, m1, c1⟩ := h1.tx
  obtain ⟨g2, k2, rfl, hB2, l2, m2, c2⟩ := h2.iz
  obtain ⟨g3, k3, rfl, hN2, l3, m3, c3⟩ := h3.nz
  have hba := bel1 V (.cells #[.slice (some ⟨g1, 0, none⟩) nl k1, .slice (some ⟨g2, 0, none⟩) bl k2, .slice (some ⟨g3, 0, none⟩) dl k3, .int .i64 root] 26)
  have hbb := bel hb hba
  have HC := hide (show Ce W (V.alloc (.cells #[.slice (some ⟨g1, 0, none⟩) nl k1, .slice (some ⟨g2, 0, none⟩) bl k2, .slice (some ⟨g3, 0, none⟩) dl k3, .int .i64 root] 26)) na ba da nl nc bl bc dl dc g1 g2 g3 k1 k2 k3 W.heap.size V.heap.size root NM BS NS from
    ⟨bel HB0.out hbb, HX.out.later hbb, HB.out.later hbb, HN.out.later hbb, hX2.later hba, hB2.later hba, hN2.later hba, below_cell hba c1, below_cell hba c2, below_cell hba c3, HT.out.below hbb, HasC.new _ _ _⟩)
  have HL := hide (And.intro (And.intro l1 (And.intro l2 l3)) (And.intro m1 (And.intro m2 m3)))
  clear h1 h2 h3 hb hX2 hB2 hN2 c1 c2 c3 l1 l2 l3 m1 m2 m3 hba hbb HX HB HN HT HB0
  obtain ⟨p2, hp2⟩ : ∃ p, V.heap.size = p := ⟨_, rfl⟩
  obtain ⟨V1, hV1⟩ : ∃ X, V.alloc (.cells #[.slice (some ⟨g1, 0, none⟩) nl k1, .slice (some ⟨g2, 0, none⟩) bl k2, .slice (some ⟨g3, 0, none⟩) dl k3, .int .i64 root] 26) = X := ⟨_, rfl⟩
  rw [hV1, hp2] at HC
  have H1 := hide hV1
  have H2 := hide hp2
  clear hV1 hp2
  obtain ⟨t0, t1, t2, t3⟩ := facts4 HC.out.u
  go_wp2_with fail
  rw [H1.out, H2.out]
  go_wp2_with fail
  clear H1 H2 t0 t1 t2 t3
  refine (check_any HC.out.X2 HC.out.B2 HC.out.N2 HS.out).mono ?_
  rintro e V2 ⟨rfl, hb⟩
  have HC2 := hide (HC.out.later hb)
  clear hb HC
  generalize hr : (if chkP NM BS NS root then (0 : Int) else 3) = r
  have HR := hide hr
  clear hr
  go_wp2_with fail
  refine (awake_any _).mono ?_
  rintro e V3 ⟨rfl, hb⟩
  have HC3 := hide (HC2.out.later hb)
  clear hb HC2
  obtain ⟨t0, t1, t2, t3⟩ := facts4 HC3.out.t
  go_wp2_with fail
  refine (sound_any HC3.out.X HC3.out.B HC3.out.N HS.out).mono ?_
  rw [snd_chk]
  rintro e V4 ⟨rfl, hb⟩
  have HC4 := hide (HC3.out.later hb)
  clear hb HC3 t0 t1 t2 t3
  obtain ⟨t0, t1, t2, t3⟩ := facts4 HC4.out.t
  obtain ⟨s0, s1, s2, s3⟩ := facts4 HC4.out.u
  obtain ⟨c, hc⟩ : ∃ c, chkP NM BS NS root = c := ⟨_, rfl⟩
  have HL1 := HL.out
  have HH := hide (held_any HC4.out.X2 HC4.out.B2 HC4.out.N2 HC4.out.X HC4.out.B HC4.out.N HL1.1.1 HL1.1.2.1 HL1.1.2.2 HL1.2.1 HL1.2.2.1 HL1.2.2.2 HC4.out.c1 HC4.out.c2 HC4.out.c3 (root := root))
  clear HL1
  rw [hc]
  rw [hc] at HR
  clear hc
  cases c with
  | true =>
    obtain rfl : (0 : Int) = r := HR.out
    go_wp2_with fail
    refine HH.out.mono ?_
    rintro e V5 ⟨rfl, hb⟩
    have HB5 := hide (bel HC4.out.old hb)
    clear hb
    go_wp2_with fail
    go_ret
    exact ⟨rfl, HB5.out⟩
  | false =>
    obtain rfl : (3 : Int) = r := HR.out
    go_wp2_with fail
    refine HH.out.mono ?_
    rintro e V5 ⟨rfl, hb⟩
    have HB5 := hide (bel HC4.out.old hb)
    clear hb
    go_wp2_with fail
    go_ret
    exact ⟨rfl, HB5.out⟩

end Go.Proofs.Ytamekjocchekoaa
