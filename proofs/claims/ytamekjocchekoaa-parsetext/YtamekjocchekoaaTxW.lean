/-
  Both parsers on one text: the same tree, each in memory of its own.
-/
import Derived.Test.YtamekjocchekoaaParse
import Derived.Test.YtamekjocchekoaaApart
import Derived.Test.YtamekjocchekoaaSq
namespace Go.Proofs.Ytamekjocchekoaa
open Go.RowKit Go.IntWalk Lx Pz
set_option linter.unusedVariables false

def PTr (w : World) (NM : List Txt) (BS : List Int) (NS : List Nd) (root ev : Int) (e : Ending) (W' : World) : Prop :=
  ∃ nv bv dv, e = .returned (.tuple #[.agg #[nv, bv, dv, .int .i64 root], .int .i64 ev]) ∧ W'.ownsRow w.heap.size 9 1 nv NM.length (tx64 NM) ∧ W'.ownsRow w.heap.size 3 1 bv BS.length (in64 BS) ∧ W'.ownsRow w.heap.size 37 9 dv NS.length (nd64 NS) ∧ Below w.heap.size w W' ∧ NM.length ≤ 1024 ∧ BS.length ≤ 1024 ∧ NS.length ≤ 1024
theorem szL_ge2 : ∀ es : List E, es.length ≤ szL es
  | [] => by simp
  | a :: es => by
    have := szL_ge2 es
    have := a.size_pos
    simp [szL]
    omega
theorem PTr.of {w W' : World} {l : List UInt8} {e : Ending} {T : List Tok} {nm : List Txt} {es : List E} {ex : E} (hT : tks l = some T) (hg : GP [] [] (T.map ab) (nm, es, ex)) (h : ParP w l e W') : PTr w nm (bdL es 0) (flL es 0 ++ ex.flat (szL es)) (((szL es + ex.size : Nat) : Int) - 1) 0 e W' := by
  rcases h with ⟨-, -, hn | ⟨T', hT', hA⟩⟩ | ⟨T', NM, es', ex', nv, bv, dv, hT', hA, h3, h4, rfl, h6, h7, h8, h9⟩
  · rw [hT] at hn; cases hn
  · rw [hT] at hT'; cases hT'
    exact absurd ((hA _).2 hg) (by simp)
  · rw [hT] at hT'; cases hT'
    have h10 := (hA _).2 hg
    simp only [Option.some.injEq, Prod.mk.injEq] at h10
    obtain ⟨rfl, rfl, rfl⟩ := h10
    have hTl : T.length ≤ 1024 := by
      obtain ⟨h1, h2⟩ := tks_cov hT
      have := cov_len T _ 0 h1
      omega
    have hge := szL_ge2 es'
    have hl : (flL es' 0 ++ ex'.flat (szL es')).length = szL es' + ex'.size := by simp [flL_len, E.flat_len]
    refine ⟨nv, bv, dv, rfl, h6, by rw [bdL_len]; exact h7, by rw [hl]; exact h8, h9, by omega, by rw [bdL_len]; omega, by rw [hl]; omega⟩
theorem PTr.bad {w W' : World} {l : List UInt8} {e : Ending} (hn : ¬ ∃ T o, tks l = some T ∧ GP [] [] (T.map ab) o) (h : ParP w l e W') : PTr w [] [] [] 0 10 e W' := by
  rcases h with ⟨rfl, hb, -⟩ | ⟨T', NM, es', ex', nv, bv, dv, hT', hA, -⟩
  · exact ⟨_, _, _, rfl, World.ownsRow_nil _ _ _ _, World.ownsRow_nil _ _ _ _, World.ownsRow_nil _ _ _ _, hb, by simp, by simp, by simp⟩
  · exact absurd ⟨T', _, hT', (hA _).1 rfl⟩ hn
theorem both_parse (s : ByteArray) : ∃ NM BS NS root ev, ((ev = 0) ∨ (ev = 10 ∧ NM = [] ∧ BS = [] ∧ NS = [] ∧ root = 0)) ∧ (∀ w, Calls Try.prog 9 #[.string s] w (PTr w NM BS NS root ev)) ∧ (∀ w, Calls Try.prog 10 #[.string s] w (PTr w NM BS NS root ev)) := by
  by_cases h : ∃ T o, tks (bs s) = some T ∧ GP [] [] (T.map ab) o
  · obtain ⟨T, ⟨nm, es, ex⟩, hT, hg⟩ := h
    exact ⟨nm, _, _, _, 0, .inl rfl, fun w => (parse_any s w).mono fun e W' hp => PTr.of hT hg hp, fun w => (qparse_any s w).mono fun e W' hp => PTr.of hT hg hp⟩
  · exact ⟨[], [], [], 0, 10, .inr ⟨rfl, rfl, rfl, rfl, rfl⟩, fun w => (parse_any s w).mono fun e W' hp => PTr.bad h hp, fun w => (qparse_any s w).mono fun e W' hp => PTr.bad h hp⟩

end Go.Proofs.Ytamekjocchekoaa

/-
  The law ParseText, over any text.
-/
namespace Go.Proofs.Ytamekjocchekoaa
open Go.RowKit Go.IntWalk Lx Pz
set_option linter.unusedVariables false
set_option linter.unusedSimpArgs false

/-- A tree in memory: its three rows. -/
structure Tw (V : World) (lo : Nat) (nv bv dv : Value) (NM : List Txt) (BS : List Int) (NS : List Nd) : Prop where
  n : V.ownsRow lo 9 1 nv NM.length (tx64 NM)
  b : V.ownsRow lo 3 1 bv BS.length (in64 BS)
  d : V.ownsRow lo 37 9 dv NS.length (nd64 NS)
theorem Tw.later {V V' : World} {lo : Nat} {nv bv dv : Value} {NM : List Txt} {BS : List Int} {NS : List Nd} (h : Tw V lo nv bv dv NM BS NS) (hb : Below V.heap.size V V') : Tw V' lo nv bv dv NM BS NS :=
  ⟨owns_kp h.n (Kp.of_below [] hb) (by simp), owns_kp h.b (Kp.of_below [] hb) (by simp), owns_kp h.d (Kp.of_below [] hb) (by simp)⟩
theorem Tw.kept {V V' : World} {S : Nat → Prop} {lo : Nat} {nv bv dv : Value} {NM : List Txt} {BS : List Int} {NS : List Nd} (h : Tw V lo nv bv dv NM BS NS) (hk : Ap.Keeps V V' S) (hS : ∀ k, lo ≤ k → ¬ S k) : Tw V' lo nv bv dv NM BS NS :=
  ⟨hk.owns h.n fun g hg => hS g (h.n.lt g hg).1, hk.owns h.b fun g hg => hS g (h.b.lt g hg).1, hk.owns h.d fun g hg => hS g (h.d.lt g hg).1⟩
theorem tw_same {V : World} {l1 l2 : Nat} {n1 b1 d1 n2 b2 d2 : Value} {NM : List Txt} {BS : List Int} {NS : List Nd} {root : Int} (h1 : Tw V l1 n1 b1 d1 NM BS NS) (h2 : Tw V l2 n2 b2 d2 NM BS NS) :
    Calls Try.prog 12 #[.agg #[n1, b1, d1, .int .i64 root], .agg #[n2, b2, d2, .int .i64 root]] V fun e W' => e = .returned (.bool true) ∧ Below V.heap.size V W' := by
  obtain ⟨a1, c1, rfl, x1⟩ := Tx.of_owns h1.n
  obtain ⟨a2, c2, rfl, x2⟩ := Iz.of_owns h1.b
  obtain ⟨a3, c3, rfl, x3⟩ := Nz.of_owns h1.d
  obtain ⟨a4, c4, rfl, x4⟩ := Tx.of_owns h2.n
  obtain ⟨a5, c5, rfl, x5⟩ := Iz.of_owns h2.b
  obtain ⟨a6, c6, rfl, x6⟩ := Nz.of_owns h2.d
  exact same_self x1 x2 x3 x4 x5 x6
theorem HasC.keeps {V V' : World} {S : Nat → Prop} {b : Nat} {t : TypeId} {cs : Array Value} (h : HasC V b t cs) (hk : Ap.Keeps V V' S) (hS : ¬ S b) : HasC V' b t cs := (hk.block b h.lt hS).trans h
theorem store9 {w : World} {base g n cap k : Nat} {xs : List Value} (h : w.ownsRow base 37 9 (.slice (some ⟨g, 0, none⟩) n cap) n xs) (u0 u1 u2 u3 u4 u5 u6 u7 u8 : Value) :
    ∃ ys, (((((((((w.setCell ⟨g, k * 9, none⟩ u0).setCell ⟨g, k * 9 + 1, none⟩ u1).setCell ⟨g, k * 9 + 2, none⟩ u2).setCell ⟨g, k * 9 + 3, none⟩ u3).setCell ⟨g, k * 9 + 4, none⟩ u4).setCell ⟨g, k * 9 + 5, none⟩ u5).setCell ⟨g, k * 9 + 6, none⟩ u6).setCell ⟨g, k * 9 + 7, none⟩ u7).setCell ⟨g, k * 9 + 8, none⟩ u8).ownsRow base 37 9 (.slice (some ⟨g, 0, none⟩) n cap) n ys ∧
      ∀ (V : World) (S : Nat → Prop), S g → Ap.Keeps V w S → Ap.Keeps V (((((((((w.setCell ⟨g, k * 9, none⟩ u0).setCell ⟨g, k * 9 + 1, none⟩ u1).setCell ⟨g, k * 9 + 2, none⟩ u2).setCell ⟨g, k * 9 + 3, none⟩ u3).setCell ⟨g, k * 9 + 4, none⟩ u4).setCell ⟨g, k * 9 + 5, none⟩ u5).setCell ⟨g, k * 9 + 6, none⟩ u6).setCell ⟨g, k * 9 + 7, none⟩ u7).setCell ⟨g, k * 9 + 8, none⟩ u8) S := by
  have s0 := h.stored (k * 9) u0
  have s1 := s0.1.stored (k * 9 + 1) u1
  have s2 := s1.1.stored (k * 9 + 2) u2
  have s3 := s2.1.stored (k * 9 + 3) u3
  have s4 := s3.1.stored (k * 9 + 4) u4
  have s5 := s4.1.stored (k * 9 + 5) u5
  have s6 := s5.1.stored (k * 9 + 6) u6
  have s7 := s6.1.stored (k * 9 + 7) u7
  have s8 := s7.1.stored (k * 9 + 8) u8
  refine ⟨_, s8.1, fun V S hS hK => ?_⟩
  have hr : ∀ k, some g = some k → S k ∨ V.heap.size ≤ k := fun k e => by cases e; exact .inl hS
  exact ((((((((hK.grown s0.2 hr).grown s1.2 hr).grown s2.2 hr).grown s3.2 hr).grown s4.2 hr).grown s5.2 hr).grown s6.2 hr).grown s7.2 hr).grown s8.2 hr
theorem row_at {w : World} {base e size g n cap : Nat} {xs : List Value} (h : w.ownsRow base e size (.slice (some ⟨g, 0, none⟩) n cap) n xs) {j : Nat} (hj : j < n * size) : ∃ u, w.cell? ⟨g, j, none⟩ = some u := by
  have := h.1
  exact ⟨_, (h.cellAt j hj).trans (List.getElem?_eq_getElem (by omega))⟩


/-- What stands when two trees are there. -/
structure La (w V : World) (pa pb lb : Nat) (a1 a2 a3 b1 b2 b3 : Value) (root : Int) (NM : List Txt) (BS : List Int) (NS : List Nd) : Prop where
  old : Below w.heap.size w V
  ta : Tw V w.heap.size a1 a2 a3 NM BS NS
  tb : Tw V lb b1 b2 b3 NM BS NS
  xa : HasC V pa 26 #[a1, a2, a3, .int .i64 root]
  xb : HasC V pb 26 #[b1, b2, b3, .int .i64 root]
theorem La.later {w V V' : World} {pa pb lb : Nat} {a1 a2 a3 b1 b2 b3 : Value} {root : Int} {NM : List Txt} {BS : List Int} {NS : List Nd} (h : La w V pa pb lb a1 a2 a3 b1 b2 b3 root NM BS NS) (hb : Below V.heap.size V V') : La w V' pa pb lb a1 a2 a3 b1 b2 b3 root NM BS NS :=
  ⟨bel h.old hb, h.ta.later hb, h.tb.later hb, h.xa.below hb, h.xb.below hb⟩
/-- And the third. -/
structure Lc (w V : World) (pa pb pc lb lc hc : Nat) (a1 a2 a3 b1 b2 b3 c1 c2 c3 : Value) (root : Int) (NM : List Txt) (BS : List Int) (NS : List Nd) : Prop where
  old : Below w.heap.size w V
  tbn : V.ownsRow w.heap.size 3 1 a2 BS.length (in64 BS)
  tb : Tw V lb b1 b2 b3 NM BS NS
  tc : Tw V lc c1 c2 c3 NM BS NS
  xa : HasC V pa 26 #[a1, a2, a3, .int .i64 root]
  xb : HasC V pb 26 #[b1, b2, b3, .int .i64 root]
  xc : HasC V pc 26 #[c1, c2, c3, .int .i64 root]
  hi : ∀ g, c2.ownBlock = some g → lc ≤ g ∧ g < hc
theorem Lc.later {w V V' : World} {pa pb pc lb lc hc : Nat} {a1 a2 a3 b1 b2 b3 c1 c2 c3 : Value} {root : Int} {NM : List Txt} {BS : List Int} {NS : List Nd} (h : Lc w V pa pb pc lb lc hc a1 a2 a3 b1 b2 b3 c1 c2 c3 root NM BS NS) (hb : Below V.heap.size V V') : Lc w V' pa pb pc lb lc hc a1 a2 a3 b1 b2 b3 c1 c2 c3 root NM BS NS :=
  ⟨bel h.old hb, owns_kp h.tbn (Kp.of_below [] hb) (by simp), h.tb.later hb, h.tc.later hb, h.xa.below hb, h.xb.below hb, h.xc.below hb, h.hi⟩

theorem Lc.kept {w V V' : World} {S : Nat → Prop} {pa pb pc lb lc hc : Nat} {a1 a2 a3 b1 b2 b3 c1 c2 c3 : Value} {root : Int} {NM : List Txt} {BS : List Int} {NS : List Nd} (h : Lc w V pa pb pc lb lc hc a1 a2 a3 b1 b2 b3 c1 c2 c3 root NM BS NS) (hk : Ap.Keeps V V' S)
    (hS : ∀ k, S k → w.heap.size ≤ k ∧ k < pa ∧ a2.ownBlock ≠ some k) (h1 : pa ≤ lb) (h2 : lb ≤ pb) (h3 : pb ≤ lc) (h4 : lc ≤ pc) : Lc w V' pa pb pc lb lc hc a1 a2 a3 b1 b2 b3 c1 c2 c3 root NM BS NS :=
  ⟨h.old.trans (hk.below (B := w.heap.size) h.old.size fun k hs => (hS k hs).1), hk.owns h.tbn (fun g hg hs => (hS g hs).2.2 hg), h.tb.kept hk (fun k hlo hs => by have := (hS k hs).2.1; omega), h.tc.kept hk (fun k hlo hs => by have := (hS k hs).2.1; omega),
    h.xa.keeps hk (fun hs => by have := (hS _ hs).2.1; omega), h.xb.keeps hk (fun hs => by have := (hS _ hs).2.1; omega), h.xc.keeps hk (fun hs => by have := (hS _ hs).2.1; omega), h.hi⟩

set_option maxRecDepth 100000 in
set_option maxHeartbeats 32000000 in
theorem text_walk (s : ByteArray) (w : World) (hs : s.size ≤ maxLen) : Calls Try.prog 3 #[.string s] w fun e w' => e = .returned (.bool true) ∧ Below w.heap.size w w' := by
  clear hs
  obtain ⟨NM, BS, NS, root, ev, hev, hP, hQ⟩ := both_parse s
  have HP := hide hP
  have HQ := hide hQ
  clear hP hQ
  go_enter Try.func3, Try.ntmps3
  go_wp2_with fail
  refine (HP.out w).mono ?_
  rintro e W1 ⟨nv1, bv1, dv1, rfl, hn1, hb1, hd1, hbl1, hN1, hB1, hD1⟩
  obtain ⟨na, nc, rfl⟩ := owns_form hn1
  obtain ⟨ba, bc, rfl⟩ := owns_form hb1
  obtain ⟨da, dc, rfl⟩ := owns_form hd1
  obtain ⟨nl, hnl⟩ : ∃ m, NM.length = m := ⟨_, rfl⟩
  obtain ⟨bl, hbl⟩ : ∃ m, BS.length = m := ⟨_, rfl⟩
  obtain ⟨dl, hdl⟩ : ∃ m, NS.length = m := ⟨_, rfl⟩
  have HNl := hide hnl
  have HBl := hide hbl
  have HDl := hide hdl
  have HA1 := hide (show Tw W1 w.heap.size (.slice na nl nc) (.slice ba bl bc) (.slice da dl dc) NM BS NS from ⟨by rw [hnl] at hn1 ⊢; exact hn1, by rw [hbl] at hb1 ⊢; exact hb1, by rw [hdl] at hd1 ⊢; exact hd1⟩)
  rw [hnl] at hN1 ⊢
  rw [hbl] at hB1 ⊢
  rw [hdl] at hD1 ⊢
  have HB1 := hide hbl1
  have HB1s := hide hbl1.size
  clear hn1 hb1 hd1 hbl1 hnl hbl hdl
  go_wp2_with fail
  have ha1 := bel1 W1 (.cells #[.slice na nl nc, .slice ba bl bc, .slice da dl dc, .int .i64 root] 26)
  have HXa := hide (HasC.new W1 26 #[.slice na nl nc, .slice ba bl bc, .slice da dl dc, .int .i64 root])
  have HA2 := hide (HA1.out.later ha1)
  have HB2 := hide (bel HB1.out ha1)
  have HLo := hide (show ∀ v, (v = Value.slice na nl nc ∨ v = .slice ba bl bc ∨ v = .slice da dl dc) → ∀ g, v.ownBlock = some g → w.heap.size ≤ g ∧ g < W1.heap.size from by
    rintro v (rfl | rfl | rfl) g hg
    · exact HA1.out.n.lt g hg
    · exact HA1.out.b.lt g hg
    · exact HA1.out.d.lt g hg)
  clear ha1 HA1 HB1
  obtain ⟨pa, hpa⟩ : ∃ p, W1.heap.size = p := ⟨_, rfl⟩
  obtain ⟨V1, hV1⟩ : ∃ X, W1.alloc (.cells #[.slice na nl nc, .slice ba bl bc, .slice da dl dc, .int .i64 root] 26) = X := ⟨_, rfl⟩
  have hpV : pa < V1.heap.size := by rw [← hV1, ← hpa]; simp
  have hw0 : w.heap.size ≤ pa := by rw [← hpa]; exact HB1s.out
  rw [hV1] at HXa HA2 HB2 ⊢
  rw [hpa] at HXa HLo ⊢
  clear hV1 hpa
  refine (HQ.out V1).mono ?_
  rintro e W2 ⟨nv2, bv2, dv2, rfl, hn2, hb2, hd2, hbl2, -, -, -⟩
  obtain ⟨n2a, n2c, rfl⟩ := owns_form hn2
  obtain ⟨b2a, b2c, rfl⟩ := owns_form hb2
  obtain ⟨d2a, d2c, rfl⟩ := owns_form hd2
  have HBt := hide (show Tw W2 V1.heap.size (.slice n2a nl n2c) (.slice b2a bl b2c) (.slice d2a dl d2c) NM BS NS from ⟨by rw [HNl.out] at hn2 ⊢; exact hn2, by rw [HBl.out] at hb2 ⊢; exact hb2, by rw [HDl.out] at hd2 ⊢; exact hd2⟩)
  rw [HNl.out, HBl.out, HDl.out]
  have HXa2 := hide (HXa.out.below hbl2)
  have HA3 := hide (HA2.out.later hbl2)
  have HB3 := hide (bel HB2.out hbl2)
  have hsz2 := hbl2.size
  clear hn2 hb2 hd2 hbl2 HXa HA2 HB2
  rcases hev with rfl | ⟨rfl, rfl, rfl, rfl, rfl⟩
  · obtain ⟨NM0, hNM0⟩ : ∃ X, NM = X := ⟨_, rfl⟩
    obtain ⟨BS0, hBS0⟩ : ∃ X, BS = X := ⟨_, rfl⟩
    obtain ⟨NS0, hNS0⟩ : ∃ X, NS = X := ⟨_, rfl⟩
    subst hNM0 hBS0 hNS0
    have HNl0 := HNl
    have HBl0 := HBl
    have HDl0 := HDl
    go_wp2_with fail
    have hb4 := bel1 W2 (.cells #[.slice n2a nl n2c, .slice b2a bl b2c, .slice d2a dl d2c, .int .i64 root] 26)
    have HLa := hide (show La w (W2.alloc (.cells #[.slice n2a nl n2c, .slice b2a bl b2c, .slice d2a dl d2c, .int .i64 root] 26)) pa W2.heap.size V1.heap.size (.slice na nl nc) (.slice ba bl bc) (.slice da dl dc) (.slice n2a nl n2c) (.slice b2a bl b2c) (.slice d2a dl d2c) root NM BS NS from ⟨bel HB3.out hb4, HA3.out.later hb4, HBt.out.later hb4, HXa2.out.below hb4, HasC.new _ _ _⟩)
    have hpb : V1.heap.size ≤ W2.heap.size := hsz2
    clear hb4 HB3 HA3 HBt HXa2 hsz2
    generalize W2.heap.size = pb at *
    generalize W2.alloc (.cells #[.slice n2a nl n2c, .slice b2a bl b2c, .slice d2a dl d2c, .int .i64 root] 26) = V2 at *
    refine (awake_any _).mono ?_
    rintro e W3 ⟨rfl, hb⟩
    have HL3 := hide (HLa.out.later hb)
    clear hb HLa
    obtain ⟨x0, x1, x2, x3⟩ := facts4 HL3.out.xa
    obtain ⟨y0, y1, y2, y3⟩ := facts4 HL3.out.xb
    go_wp2_with fail
    refine (tw_same HL3.out.ta HL3.out.tb).mono ?_
    rintro e W4 ⟨rfl, hb⟩
    have HL4 := hide (HL3.out.later hb)
    clear hb HL3 x0 x1 x2 x3 y0 y1 y2 y3
    go_wp2_with fail
    refine (HP.out W4).mono ?_
    rintro e W5 ⟨nv3, bv3, dv3, rfl, hn3, hb3, hd3, hbl3, -, -, -⟩
    have HL5 := hide (HL4.out.later hbl3)
    have HTc := hide (show Tw W5 W4.heap.size nv3 bv3 dv3 NM BS NS from ⟨hn3, hb3, hd3⟩)
    have HTs := hide hbl3.size
    have hp4 : pb < W4.heap.size := HL4.out.xb.lt
    obtain ⟨n3a, n3c, rfl⟩ := owns_form hn3
    obtain ⟨b3a, b3c, rfl⟩ := owns_form hb3
    obtain ⟨d3a, d3c, rfl⟩ := owns_form hd3
    rw [HNl0.out, HBl0.out, HDl0.out] at HTc ⊢
    clear hn3 hb3 hd3 hbl3 HL4
    generalize W4.heap.size = lc at *
    go_wp2_with fail
    have hb5 := bel1 W5 (.cells #[.slice n3a nl n3c, .slice b3a bl b3c, .slice d3a dl d3c, .int .i64 root] 26)
    have HLc := hide (show Lc w (W5.alloc (.cells #[.slice n3a nl n3c, .slice b3a bl b3c, .slice d3a dl d3c, .int .i64 root] 26)) pa pb W5.heap.size V1.heap.size lc W5.heap.size (.slice na nl nc) (.slice ba bl bc) (.slice da dl dc) (.slice n2a nl n2c) (.slice b2a bl b2c) (.slice d2a dl d2c) (.slice n3a nl n3c) (.slice b3a bl b3c) (.slice d3a dl d3c) root NM BS NS from ⟨bel HL5.out.old hb5, (HL5.out.ta.later hb5).b, HL5.out.tb.later hb5, HTc.out.later hb5, HL5.out.xa.below hb5, HL5.out.xb.below hb5, HasC.new _ _ _, fun g hg => HTc.out.b.lt g hg⟩)
    have HRd := hide (HL5.out.ta.later hb5).d
    have HRn := hide (HL5.out.ta.later hb5).n
    have hlc : lc ≤ W5.heap.size := by
      have := HL5.out.xb.lt
      have h2 := HTs.out
      exact h2
    clear hb5 HL5 HTc HTs
    generalize W5.heap.size = pc at *
    generalize W5.alloc (.cells #[.slice n3a nl n3c, .slice b3a bl b3c, .slice d3a dl d3c, .int .i64 root] 26) = V5 at *
    go_loopw [9] (fun i wr => ∃ (k : Nat) (xs : List Value), k ≤ dl ∧ i = .int .i64 (k : Int) ∧ Hid (wr.ownsRow w.heap.size 37 9 (.slice da dl dc) dl xs) ∧ Hid (Ap.Keeps V5 wr (fun k => Value.ownBlock (.slice da dl dc) = some k))) (fun i _ => dl - (intOf i).toNat)
    case atStart => exact ⟨0, _, Nat.zero_le _, rfl, hide (by have h := HRd.out; rw [HDl0.out] at h; exact h), hide (Ap.Keeps.refl _ _)⟩
    case round =>
      obtain ⟨k, xs, hk, rfl, HR, HK⟩ := hrel
      rename World => V
      obtain ⟨x0, x1, x2, x3⟩ := facts4 (HLc.out.xa.keeps HK.out (fun h => by have := (HLo.out _ (.inr (.inr rfl)) _ h).2; omega))
      by_cases hlt : k < dl
      · rcases own_forms HR.out with ⟨h, h0⟩ | ⟨g, cap', h⟩
        · omega
        · cases h
          obtain ⟨v0, q0⟩ := row_at HR.out (j := k * 9) (by omega)
          obtain ⟨v1, q1⟩ := row_at HR.out (j := k * 9 + 1) (by omega)
          obtain ⟨v2, q2⟩ := row_at HR.out (j := k * 9 + 2) (by omega)
          obtain ⟨v3, q3⟩ := row_at HR.out (j := k * 9 + 3) (by omega)
          obtain ⟨v4, q4⟩ := row_at HR.out (j := k * 9 + 4) (by omega)
          obtain ⟨v5, q5⟩ := row_at HR.out (j := k * 9 + 5) (by omega)
          obtain ⟨v6, q6⟩ := row_at HR.out (j := k * 9 + 6) (by omega)
          obtain ⟨v7, q7⟩ := row_at HR.out (j := k * 9 + 7) (by omega)
          obtain ⟨v8, q8⟩ := row_at HR.out (j := k * 9 + 8) (by omega)
          have f0 := HR.out.frozenAt (k * 9)
          have f1 := HR.out.frozenAt (k * 9 + 1)
          have f2 := HR.out.frozenAt (k * 9 + 2)
          have f3 := HR.out.frozenAt (k * 9 + 3)
          have f4 := HR.out.frozenAt (k * 9 + 4)
          have f5 := HR.out.frozenAt (k * 9 + 5)
          have f6 := HR.out.frozenAt (k * 9 + 6)
          have f7 := HR.out.frozenAt (k * 9 + 7)
          have f8 := HR.out.frozenAt (k * 9 + 8)
          have hk1 : (0 : Int) ≤ k := by omega
          have hk2 : (k : Int) < dl := by omega
          obtain ⟨ys, hO, hKK⟩ := store9 (k := k) HR.out (.int .i64 99) (.int .i64 0) (.int .i64 0) (.int .i64 0) (.int .i64 0) (.int .i64 0) (.int .i64 0) (.int .i64 0) (.int .i64 0)
          have hgp : g < pa := (HLo.out _ (.inr (.inr rfl)) g rfl).2
          have HO2 := hide hO
          have HK2 := hide (hKK V5 (fun k => Value.ownBlock (.slice (some ⟨g, 0, none⟩) dl dc) = some k) rfl HK.out)
          clear hO hKK
          go_wp2_with fail
          go_roundw
          case rel => exact ⟨k + 1, ys, by omega, by go_num, hide HO2.out, hide HK2.out⟩
          case measure => simp [intOf]; omega
      · obtain rfl : k = dl := by omega
        have HLc1 := hide (HLc.out.kept HK.out (fun j h => ⟨(HLo.out _ (.inr (.inr rfl)) j h).1, (HLo.out _ (.inr (.inr rfl)) j h).2, fun h2 => by
          rcases Ap.owns_apart HRd.out HLc.out.tbn (by decide) with h3 | h3
          · rw [h] at h3; cases h3
          · exact h3 (h.trans h2.symm)⟩) (by omega) (by omega) (by omega) (by omega))
        have HRn1 := hide (HK.out.owns HRn.out (fun g hg h => by
          rcases Ap.owns_apart HRd.out HRn.out (by decide) with h3 | h3
          · rw [h] at h3; cases h3
          · exact h3 (h.trans hg.symm)))
        clear HRd HRn HLc HK HR hk hlt
        go_wp2_with fail
        clear x0 x1 x2 x3
        go_loopw [10] (fun i wr => ∃ (j : Nat) (xs : List Value), j ≤ nl ∧ i = .int .i64 (j : Int) ∧ Hid (wr.ownsRow w.heap.size 9 1 (.slice na nl nc) nl xs) ∧ Hid (Ap.Keeps V wr (fun k => Value.ownBlock (.slice na nl nc) = some k))) (fun i _ => nl - (intOf i).toNat)
        case atStart => exact ⟨0, _, Nat.zero_le _, rfl, hide (by have h := HRn1.out; rw [HNl0.out] at h; exact h), hide (Ap.Keeps.refl _ _)⟩
        case round =>
          obtain ⟨j, xs, hj, rfl, HR, HK⟩ := hrel
          rename World => V8
          obtain ⟨x0, x1, x2, x3⟩ := facts4 (HLc1.out.xa.keeps HK.out (fun h => by have := (HLo.out _ (.inl rfl) _ h).2; omega))
          by_cases hlt : j < nl
          · rcases own_forms HR.out with ⟨h, h0⟩ | ⟨g, cap', h⟩
            · omega
            · cases h
              obtain ⟨v0, q0⟩ := row_at HR.out (j := j) (by omega)
              have f0 := HR.out.frozenAt j
              have hk1 : (0 : Int) ≤ j := by omega
              have hk2 : (j : Int) < nl := by omega
              have hst := HR.out.stored j (.string ⟨#[122]⟩)
              have HO2 := hide hst.1
              have HK2 := hide (HK.out.grown hst.2 (fun k e => by cases e; exact .inl rfl))
              clear hst
              go_wp2_with fail
              go_roundw
              case rel => exact ⟨j + 1, _, by omega, by go_num, hide HO2.out, hide HK2.out⟩
              case measure => simp [intOf]; omega
          · obtain rfl : j = nl := by omega
            have HLc2 := hide (HLc1.out.kept HK.out (fun k h => ⟨(HLo.out _ (.inl rfl) k h).1, (HLo.out _ (.inl rfl) k h).2, fun h2 => by
              rcases Ap.owns_apart HRn1.out HLc1.out.tbn (by decide) with h3 | h3
              · rw [h] at h3; cases h3
              · exact h3 (h.trans h2.symm)⟩) (by omega) (by omega) (by omega) (by omega))
            clear HRn1 HLc1 HK HR hj hlt
            go_wp2_with fail
            clear x0 x1 x2 x3
            refine (HP.out V8).mono ?_
            rintro e W9 ⟨nv4, bv4, dv4, rfl, hn4, hb4, hd4, hbl4, -, -, -⟩
            have HL9 := hide (HLc2.out.later hbl4)
            have HTd := hide (show Tw W9 V8.heap.size nv4 bv4 dv4 NM BS NS from ⟨hn4, hb4, hd4⟩)
            have hpc : pc < V8.heap.size := HLc2.out.xc.lt
            obtain ⟨n4a, n4c, rfl⟩ := owns_form hn4
            obtain ⟨b4a, b4c, rfl⟩ := owns_form hb4
            obtain ⟨d4a, d4c, rfl⟩ := owns_form hd4
            rw [HNl0.out, HBl0.out, HDl0.out] at HTd ⊢
            clear hn4 hb4 hd4 hbl4 HLc2
            generalize V8.heap.size = ld at *
            have hb5 := bel1 W9 (.cells #[.slice n4a j n4c, .slice b4a bl b4c, .slice d4a k d4c, .int .i64 root] 26)
            have HLd := hide (HL9.out.later hb5)
            have HTd2 := hide (HTd.out.later hb5)
            have HXd := hide (HasC.new W9 26 #[.slice n4a j n4c, .slice b4a bl b4c, .slice d4a k d4c, .int .i64 root])
            clear hb5 HL9 HTd
            obtain ⟨c0, c1, c2, c3⟩ := facts4 HLd.out.xc
            obtain ⟨y0, y1, y2, y3⟩ := facts4 HLd.out.xb
            go_wp2_with fail
            generalize W9.heap.size = pd at *
            generalize W9.alloc (.cells #[.slice n4a j n4c, .slice b4a bl b4c, .slice d4a k d4c, .int .i64 root] 26) = V9 at *
            refine (tw_same HLd.out.tc HLd.out.tb).mono ?_
            rintro e W10 ⟨rfl, hb⟩
            have HLe := hide (HLd.out.later hb)
            have HTe := hide (HTd2.out.later hb)
            have HXe := hide (HXd.out.below hb)
            clear hb HLd HTd2 HXd c0 c1 c2 c3 y0 y1 y2 y3
            obtain ⟨d0, d1, d2, d3⟩ := facts4 HXe.out
            obtain ⟨y0, y1, y2, y3⟩ := facts4 HLe.out.xb
            go_wp2_with fail
            refine (tw_same HTe.out HLe.out.tb).mono ?_
            rintro e W11 ⟨rfl, hb⟩
            have HLf := hide (HLe.out.later hb)
            have HTf := hide (HTe.out.later hb)
            have HXf := hide (HXe.out.below hb)
            clear hb HLe HTe HXe d0 d1 d2 d3 y0 y1 y2 y3
            obtain ⟨x0, x1, x2, x3⟩ := facts4 HLf.out.xa
            obtain ⟨c0, c1, c2, c3⟩ := facts4 HLf.out.xc
            obtain ⟨d0, d1, d2, d3⟩ := facts4 HXf.out
            go_wp2_with fail
            have hba := bel1 W11 (.cells #[.slice ba bl bc, .slice b3a bl b3c, .slice b4a bl b4c] 23)
            have hX := HasC.new W11 23 #[.slice ba bl bc, .slice b3a bl b3c, .slice b4a bl b4c]
            have r0 := owns_kp HLf.out.tbn (Kp.of_below [] hba) (by simp)
            have r1 := owns_kp HLf.out.tc.b (Kp.of_below [] hba) (by simp)
            have r2 := owns_kp HTf.out.b (Kp.of_below [] hba) (by simp)
            have hl : Ap.Lists (W11.alloc (.cells #[.slice ba bl bc, .slice b3a bl b3c, .slice b4a bl b4c] 23)) W11.heap.size 3 (fun i => if i = 0 then .slice ba bl bc else if i = 1 then .slice b3a bl b3c else .slice b4a bl b4c) (fun _ => bl) := by
              have hA : ∀ g, Value.ownBlock (.slice ba bl bc) = some g → w.heap.size ≤ g ∧ g < pa := fun g hg => HLo.out _ (.inr (.inl rfl)) g hg
              have hC : ∀ g, Value.ownBlock (.slice b3a bl b3c) = some g → lc ≤ g ∧ g < pc := HLf.out.hi
              have hD : ∀ g, Value.ownBlock (.slice b4a bl b4c) = some g → ld ≤ g ∧ g < W11.heap.size := fun g hg => HTf.out.b.lt g hg
              have hpa' := HLf.out.xa.lt
              have hpc' := HLf.out.xc.lt
              refine ⟨hX.lt, fun i hi => ?_, fun i hi => ?_, fun i j hi hj hij k hk => ?_, fun i hi => ?_, fun i hi => by omega, by omega⟩
              · match i, hi with
                | 0, _ => exact hX.cell 0 rfl
                | 1, _ => exact hX.cell 1 rfl
                | 2, _ => exact hX.cell 2 rfl
              · match i, hi with
                | 0, _ => exact ⟨_, own_mono (by rw [HBl0.out] at r0; exact r0) (Nat.zero_le _)⟩
                | 1, _ => exact ⟨_, own_mono (by rw [HBl0.out] at r1; exact r1) (Nat.zero_le _)⟩
                | 2, _ => exact ⟨_, own_mono (by rw [HBl0.out] at r2; exact r2) (Nat.zero_le _)⟩
              · intro hk2
                match i, hi, j, hj with
                | 0, _, 0, _ => exact hij rfl
                | 1, _, 1, _ => exact hij rfl
                | 2, _, 2, _ => exact hij rfl
                | 0, _, 1, _ => have h1 := hA k hk; have h2 := hC k hk2; omega
                | 0, _, 2, _ => have h1 := hA k hk; have h2 := hD k hk2; omega
                | 1, _, 0, _ => have h1 := hC k hk; have h2 := hA k hk2; omega
                | 1, _, 2, _ => have h1 := hC k hk; have h2 := hD k hk2; omega
                | 2, _, 0, _ => have h1 := hD k hk; have h2 := hA k hk2; omega
                | 2, _, 1, _ => have h1 := hD k hk; have h2 := hC k hk2; omega
              · intro hk2
                match i, hi with
                | 0, _ => have h1 := hA _ hk2; omega
                | 1, _ => have h1 := hC _ hk2; omega
                | 2, _ => have h1 := hD _ hk2; omega
            have HLs := hide hl
            have HBf := hide (bel HLf.out.old hba)
            have HOf := hide (show ∀ k, Ap.Of 3 (fun i => if i = 0 then .slice ba bl bc else if i = 1 then .slice b3a bl b3c else .slice b4a bl b4c) k → w.heap.size ≤ k from by
              rintro k ⟨i, hi, hk⟩
              match i, hi with
              | 0, _ => exact (HLo.out _ (.inr (.inl rfl)) k hk).1
              | 1, _ => have h1 := HLf.out.hi k hk; have h2 := hw0; omega
              | 2, _ => have h1 := (HTf.out.b.lt k hk).1; have h2 := hw0; omega)
            clear hl r0 r1 r2 hX hba x0 x1 x2 x3 c0 c1 c2 c3 d0 d1 d2 d3
            refine (show Calls Try.prog 13 #[.slice (some ⟨W11.heap.size, 0, none⟩) 3 3] _ _ from Ap.apart_any W11.heap.size 3 3 _ _ _ HLs.out).mono ?_
            rintro e W13 ⟨rfl, hK⟩
            have HB13 := hide (HBf.out.trans (hK.below (B := w.heap.size) HBf.out.size HOf.out))
            clear hK
            go_wp2_with fail
            go_ret
            exact ⟨rfl, HB13.out⟩
  · have HNl0 := HNl
    have HBl0 := HBl
    have HDl0 := HDl
    go_wp2_with fail
    have hb4 := bel1 W2 (.cells #[.slice none 0 0, .slice none 0 0, .slice none 0 0, .int .i64 0] 26)
    have HLa := hide (show La w (W2.alloc (.cells #[.slice none 0 0, .slice none 0 0, .slice none 0 0, .int .i64 0] 26)) pa W2.heap.size V1.heap.size (.slice na nl nc) (.slice ba bl bc) (.slice da dl dc) (.slice none 0 0) (.slice none 0 0) (.slice none 0 0) 0 [] [] [] from ⟨bel HB3.out hb4, HA3.out.later hb4, ⟨World.ownsRow_nil _ _ _ _, World.ownsRow_nil _ _ _ _, World.ownsRow_nil _ _ _ _⟩, HXa2.out.below hb4, HasC.new _ _ _⟩)
    have hpb : V1.heap.size ≤ W2.heap.size := hsz2
    clear hb4 HB3 HA3 HBt HXa2 hsz2
    generalize W2.heap.size = pb at *
    generalize W2.alloc (.cells #[.slice none 0 0, .slice none 0 0, .slice none 0 0, .int .i64 0] 26) = V2 at *
    refine (awake_any _).mono ?_
    rintro e W3 ⟨rfl, hb⟩
    have HL3 := hide (HLa.out.later hb)
    clear hb HLa
    obtain ⟨x0, x1, x2, x3⟩ := facts4 HL3.out.xa
    obtain ⟨y0, y1, y2, y3⟩ := facts4 HL3.out.xb
    go_wp2_with fail
    refine (tw_same HL3.out.ta HL3.out.tb).mono ?_
    rintro e W4 ⟨rfl, hb⟩
    have HL4 := hide (HL3.out.later hb)
    clear hb HL3 x0 x1 x2 x3 y0 y1 y2 y3
    go_wp2_with fail
    refine (HP.out W4).mono ?_
    rintro e W5 ⟨nv3, bv3, dv3, rfl, hn3, hb3, hd3, hbl3, -, -, -⟩
    have HL5 := hide (HL4.out.later hbl3)
    have HTc := hide (show Tw W5 W4.heap.size nv3 bv3 dv3 [] [] [] from ⟨hn3, hb3, hd3⟩)
    have HTs := hide hbl3.size
    have hp4 : pb < W4.heap.size := HL4.out.xb.lt
    obtain ⟨n3a, n3c, rfl⟩ := owns_form hn3
    obtain ⟨b3a, b3c, rfl⟩ := owns_form hb3
    obtain ⟨d3a, d3c, rfl⟩ := owns_form hd3
    rw [HNl0.out, HBl0.out, HDl0.out] at HTc ⊢
    clear hn3 hb3 hd3 hbl3 HL4
    generalize W4.heap.size = lc at *
    go_wp2_with fail
    have hb5 := bel1 W5 (.cells #[.slice n3a nl n3c, .slice b3a bl b3c, .slice d3a dl d3c, .int .i64 0] 26)
    have HLc := hide (show Lc w (W5.alloc (.cells #[.slice n3a nl n3c, .slice b3a bl b3c, .slice d3a dl d3c, .int .i64 0] 26)) pa pb W5.heap.size V1.heap.size lc W5.heap.size (.slice na nl nc) (.slice ba bl bc) (.slice da dl dc) (.slice none 0 0) (.slice none 0 0) (.slice none 0 0) (.slice n3a nl n3c) (.slice b3a bl b3c) (.slice d3a dl d3c) 0 [] [] [] from ⟨bel HL5.out.old hb5, (HL5.out.ta.later hb5).b, HL5.out.tb.later hb5, HTc.out.later hb5, HL5.out.xa.below hb5, HL5.out.xb.below hb5, HasC.new _ _ _, fun g hg => HTc.out.b.lt g hg⟩)
    have HRd := hide (HL5.out.ta.later hb5).d
    have HRn := hide (HL5.out.ta.later hb5).n
    have hlc : lc ≤ W5.heap.size := by
      have := HL5.out.xb.lt
      have h2 := HTs.out
      exact h2
    clear hb5 HL5 HTc HTs
    generalize W5.heap.size = pc at *
    generalize W5.alloc (.cells #[.slice n3a nl n3c, .slice b3a bl b3c, .slice d3a dl d3c, .int .i64 0] 26) = V5 at *
    go_loopw [9] (fun i wr => ∃ (k : Nat) (xs : List Value), k ≤ dl ∧ i = .int .i64 (k : Int) ∧ Hid (wr.ownsRow w.heap.size 37 9 (.slice da dl dc) dl xs) ∧ Hid (Ap.Keeps V5 wr (fun k => Value.ownBlock (.slice da dl dc) = some k))) (fun i _ => dl - (intOf i).toNat)
    case atStart => exact ⟨0, _, Nat.zero_le _, rfl, hide (by have h := HRd.out; rw [HDl0.out] at h; exact h), hide (Ap.Keeps.refl _ _)⟩
    case round =>
      obtain ⟨k, xs, hk, rfl, HR, HK⟩ := hrel
      rename World => V
      obtain ⟨x0, x1, x2, x3⟩ := facts4 (HLc.out.xa.keeps HK.out (fun h => by have := (HLo.out _ (.inr (.inr rfl)) _ h).2; omega))
      by_cases hlt : k < dl
      · rcases own_forms HR.out with ⟨h, h0⟩ | ⟨g, cap', h⟩
        · omega
        · cases h
          obtain ⟨v0, q0⟩ := row_at HR.out (j := k * 9) (by omega)
          obtain ⟨v1, q1⟩ := row_at HR.out (j := k * 9 + 1) (by omega)
          obtain ⟨v2, q2⟩ := row_at HR.out (j := k * 9 + 2) (by omega)
          obtain ⟨v3, q3⟩ := row_at HR.out (j := k * 9 + 3) (by omega)
          obtain ⟨v4, q4⟩ := row_at HR.out (j := k * 9 + 4) (by omega)
          obtain ⟨v5, q5⟩ := row_at HR.out (j := k * 9 + 5) (by omega)
          obtain ⟨v6, q6⟩ := row_at HR.out (j := k * 9 + 6) (by omega)
          obtain ⟨v7, q7⟩ := row_at HR.out (j := k * 9 + 7) (by omega)
          obtain ⟨v8, q8⟩ := row_at HR.out (j := k * 9 + 8) (by omega)
          have f0 := HR.out.frozenAt (k * 9)
          have f1 := HR.out.frozenAt (k * 9 + 1)
          have f2 := HR.out.frozenAt (k * 9 + 2)
          have f3 := HR.out.frozenAt (k * 9 + 3)
          have f4 := HR.out.frozenAt (k * 9 + 4)
          have f5 := HR.out.frozenAt (k * 9 + 5)
          have f6 := HR.out.frozenAt (k * 9 + 6)
          have f7 := HR.out.frozenAt (k * 9 + 7)
          have f8 := HR.out.frozenAt (k * 9 + 8)
          have hk1 : (0 : Int) ≤ k := by omega
          have hk2 : (k : Int) < dl := by omega
          obtain ⟨ys, hO, hKK⟩ := store9 (k := k) HR.out (.int .i64 99) (.int .i64 0) (.int .i64 0) (.int .i64 0) (.int .i64 0) (.int .i64 0) (.int .i64 0) (.int .i64 0) (.int .i64 0)
          have hgp : g < pa := (HLo.out _ (.inr (.inr rfl)) g rfl).2
          have HO2 := hide hO
          have HK2 := hide (hKK V5 (fun k => Value.ownBlock (.slice (some ⟨g, 0, none⟩) dl dc) = some k) rfl HK.out)
          clear hO hKK
          go_wp2_with fail
          go_roundw
          case rel => exact ⟨k + 1, ys, by omega, by go_num, hide HO2.out, hide HK2.out⟩
          case measure => simp [intOf]; omega
      · obtain rfl : k = dl := by omega
        have HLc1 := hide (HLc.out.kept HK.out (fun j h => ⟨(HLo.out _ (.inr (.inr rfl)) j h).1, (HLo.out _ (.inr (.inr rfl)) j h).2, fun h2 => by
          rcases Ap.owns_apart HRd.out HLc.out.tbn (by decide) with h3 | h3
          · rw [h] at h3; cases h3
          · exact h3 (h.trans h2.symm)⟩) (by omega) (by omega) (by omega) (by omega))
        have HRn1 := hide (HK.out.owns HRn.out (fun g hg h => by
          rcases Ap.owns_apart HRd.out HRn.out (by decide) with h3 | h3
          · rw [h] at h3; cases h3
          · exact h3 (h.trans hg.symm)))
        clear HRd HRn HLc HK HR hk hlt
        go_wp2_with fail
        clear x0 x1 x2 x3
        go_loopw [10] (fun i wr => ∃ (j : Nat) (xs : List Value), j ≤ nl ∧ i = .int .i64 (j : Int) ∧ Hid (wr.ownsRow w.heap.size 9 1 (.slice na nl nc) nl xs) ∧ Hid (Ap.Keeps V wr (fun k => Value.ownBlock (.slice na nl nc) = some k))) (fun i _ => nl - (intOf i).toNat)
        case atStart => exact ⟨0, _, Nat.zero_le _, rfl, hide (by have h := HRn1.out; rw [HNl0.out] at h; exact h), hide (Ap.Keeps.refl _ _)⟩
        case round =>
          obtain ⟨j, xs, hj, rfl, HR, HK⟩ := hrel
          rename World => V8
          obtain ⟨x0, x1, x2, x3⟩ := facts4 (HLc1.out.xa.keeps HK.out (fun h => by have := (HLo.out _ (.inl rfl) _ h).2; omega))
          by_cases hlt : j < nl
          · rcases own_forms HR.out with ⟨h, h0⟩ | ⟨g, cap', h⟩
            · omega
            · cases h
              obtain ⟨v0, q0⟩ := row_at HR.out (j := j) (by omega)
              have f0 := HR.out.frozenAt j
              have hk1 : (0 : Int) ≤ j := by omega
              have hk2 : (j : Int) < nl := by omega
              have hst := HR.out.stored j (.string ⟨#[122]⟩)
              have HO2 := hide hst.1
              have HK2 := hide (HK.out.grown hst.2 (fun k e => by cases e; exact .inl rfl))
              clear hst
              go_wp2_with fail
              go_roundw
              case rel => exact ⟨j + 1, _, by omega, by go_num, hide HO2.out, hide HK2.out⟩
              case measure => simp [intOf]; omega
          · obtain rfl : j = nl := by omega
            have HLc2 := hide (HLc1.out.kept HK.out (fun k h => ⟨(HLo.out _ (.inl rfl) k h).1, (HLo.out _ (.inl rfl) k h).2, fun h2 => by
              rcases Ap.owns_apart HRn1.out HLc1.out.tbn (by decide) with h3 | h3
              · rw [h] at h3; cases h3
              · exact h3 (h.trans h2.symm)⟩) (by omega) (by omega) (by omega) (by omega))
            clear HRn1 HLc1 HK HR hj hlt
            go_wp2_with fail
            clear x0 x1 x2 x3
            refine (HP.out V8).mono ?_
            rintro e W9 ⟨nv4, bv4, dv4, rfl, hn4, hb4, hd4, hbl4, -, -, -⟩
            have HL9 := hide (HLc2.out.later hbl4)
            have HTd := hide (show Tw W9 V8.heap.size nv4 bv4 dv4 [] [] [] from ⟨hn4, hb4, hd4⟩)
            have hpc : pc < V8.heap.size := HLc2.out.xc.lt
            obtain ⟨n4a, n4c, rfl⟩ := owns_form hn4
            obtain ⟨b4a, b4c, rfl⟩ := owns_form hb4
            obtain ⟨d4a, d4c, rfl⟩ := owns_form hd4
            rw [HNl0.out, HBl0.out, HDl0.out] at HTd ⊢
            clear hn4 hb4 hd4 hbl4 HLc2
            generalize V8.heap.size = ld at *
            have hb5 := bel1 W9 (.cells #[.slice n4a j n4c, .slice b4a bl b4c, .slice d4a k d4c, .int .i64 0] 26)
            have HLd := hide (HL9.out.later hb5)
            have HTd2 := hide (HTd.out.later hb5)
            have HXd := hide (HasC.new W9 26 #[.slice n4a j n4c, .slice b4a bl b4c, .slice d4a k d4c, .int .i64 0])
            clear hb5 HL9 HTd
            obtain ⟨c0, c1, c2, c3⟩ := facts4 HLd.out.xc
            obtain ⟨y0, y1, y2, y3⟩ := facts4 HLd.out.xb
            go_wp2_with fail
            generalize W9.heap.size = pd at *
            generalize W9.alloc (.cells #[.slice n4a j n4c, .slice b4a bl b4c, .slice d4a k d4c, .int .i64 0] 26) = V9 at *
            refine (tw_same HLd.out.tc HLd.out.tb).mono ?_
            rintro e W10 ⟨rfl, hb⟩
            have HLe := hide (HLd.out.later hb)
            have HTe := hide (HTd2.out.later hb)
            have HXe := hide (HXd.out.below hb)
            clear hb HLd HTd2 HXd c0 c1 c2 c3 y0 y1 y2 y3
            obtain ⟨d0, d1, d2, d3⟩ := facts4 HXe.out
            obtain ⟨y0, y1, y2, y3⟩ := facts4 HLe.out.xb
            go_wp2_with fail
            refine (tw_same HTe.out HLe.out.tb).mono ?_
            rintro e W11 ⟨rfl, hb⟩
            have HLf := hide (HLe.out.later hb)
            have HTf := hide (HTe.out.later hb)
            have HXf := hide (HXe.out.below hb)
            clear hb HLe HTe HXe d0 d1 d2 d3 y0 y1 y2 y3
            obtain ⟨x0, x1, x2, x3⟩ := facts4 HLf.out.xa
            obtain ⟨c0, c1, c2, c3⟩ := facts4 HLf.out.xc
            obtain ⟨d0, d1, d2, d3⟩ := facts4 HXf.out
            go_wp2_with fail
            have hba := bel1 W11 (.cells #[.slice ba bl bc, .slice b3a bl b3c, .slice b4a bl b4c] 23)
            have hX := HasC.new W11 23 #[.slice ba bl bc, .slice b3a bl b3c, .slice b4a bl b4c]
            have r0 := owns_kp HLf.out.tbn (Kp.of_below [] hba) (by simp)
            have r1 := owns_kp HLf.out.tc.b (Kp.of_below [] hba) (by simp)
            have r2 := owns_kp HTf.out.b (Kp.of_below [] hba) (by simp)
            have hl : Ap.Lists (W11.alloc (.cells #[.slice ba bl bc, .slice b3a bl b3c, .slice b4a bl b4c] 23)) W11.heap.size 3 (fun i => if i = 0 then .slice ba bl bc else if i = 1 then .slice b3a bl b3c else .slice b4a bl b4c) (fun _ => bl) := by
              have hA : ∀ g, Value.ownBlock (.slice ba bl bc) = some g → w.heap.size ≤ g ∧ g < pa := fun g hg => HLo.out _ (.inr (.inl rfl)) g hg
              have hC : ∀ g, Value.ownBlock (.slice b3a bl b3c) = some g → lc ≤ g ∧ g < pc := HLf.out.hi
              have hD : ∀ g, Value.ownBlock (.slice b4a bl b4c) = some g → ld ≤ g ∧ g < W11.heap.size := fun g hg => HTf.out.b.lt g hg
              have hpa' := HLf.out.xa.lt
              have hpc' := HLf.out.xc.lt
              refine ⟨hX.lt, fun i hi => ?_, fun i hi => ?_, fun i j hi hj hij k hk => ?_, fun i hi => ?_, fun i hi => by omega, by omega⟩
              · match i, hi with
                | 0, _ => exact hX.cell 0 rfl
                | 1, _ => exact hX.cell 1 rfl
                | 2, _ => exact hX.cell 2 rfl
              · match i, hi with
                | 0, _ => exact ⟨_, own_mono (by rw [HBl0.out] at r0; exact r0) (Nat.zero_le _)⟩
                | 1, _ => exact ⟨_, own_mono (by rw [HBl0.out] at r1; exact r1) (Nat.zero_le _)⟩
                | 2, _ => exact ⟨_, own_mono (by rw [HBl0.out] at r2; exact r2) (Nat.zero_le _)⟩
              · intro hk2
                match i, hi, j, hj with
                | 0, _, 0, _ => exact hij rfl
                | 1, _, 1, _ => exact hij rfl
                | 2, _, 2, _ => exact hij rfl
                | 0, _, 1, _ => have h1 := hA k hk; have h2 := hC k hk2; omega
                | 0, _, 2, _ => have h1 := hA k hk; have h2 := hD k hk2; omega
                | 1, _, 0, _ => have h1 := hC k hk; have h2 := hA k hk2; omega
                | 1, _, 2, _ => have h1 := hC k hk; have h2 := hD k hk2; omega
                | 2, _, 0, _ => have h1 := hD k hk; have h2 := hA k hk2; omega
                | 2, _, 1, _ => have h1 := hD k hk; have h2 := hC k hk2; omega
              · intro hk2
                match i, hi with
                | 0, _ => have h1 := hA _ hk2; omega
                | 1, _ => have h1 := hC _ hk2; omega
                | 2, _ => have h1 := hD _ hk2; omega
            have HLs := hide hl
            have HBf := hide (bel HLf.out.old hba)
            have HOf := hide (show ∀ k, Ap.Of 3 (fun i => if i = 0 then .slice ba bl bc else if i = 1 then .slice b3a bl b3c else .slice b4a bl b4c) k → w.heap.size ≤ k from by
              rintro k ⟨i, hi, hk⟩
              match i, hi with
              | 0, _ => exact (HLo.out _ (.inr (.inl rfl)) k hk).1
              | 1, _ => have h1 := HLf.out.hi k hk; have h2 := hw0; omega
              | 2, _ => have h1 := (HTf.out.b.lt k hk).1; have h2 := hw0; omega)
            clear hl r0 r1 r2 hX hba x0 x1 x2 x3 c0 c1 c2 c3 d0 d1 d2 d3
            refine (show Calls Try.prog 13 #[.slice (some ⟨W11.heap.size, 0, none⟩) 3 3] _ _ from Ap.apart_any W11.heap.size 3 3 _ _ _ HLs.out).mono ?_
            rintro e W13 ⟨rfl, hK⟩
            have HB13 := hide (HBf.out.trans (hK.below (B := w.heap.size) HBf.out.size HOf.out))
            clear hK
            go_wp2_with fail
            go_ret
            exact ⟨rfl, HB13.out⟩

end Go.Proofs.Ytamekjocchekoaa
