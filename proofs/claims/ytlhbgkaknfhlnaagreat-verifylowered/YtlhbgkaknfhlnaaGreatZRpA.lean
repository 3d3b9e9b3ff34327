/-
  Gaps, byte by byte.
-/
import Derived.Test.YtlhbgkaknfhlnaaGreatZGrA
import Derived.Test.YtlhbgkaknfhlnaaGreatZRlA
import Derived.Defers
import Derived.Recover
import Derived.Laws.Pointers
namespace Lx
set_option linter.unusedVariables false

theorem cov_len : ∀ (T : List Tok) (l : List UInt8) (p : Nat), Cov l p T → T.length ≤ l.length
  | [], _, _, _ => Nat.zero_le _
  | t :: T, l, p, ⟨g, rest, e, hp, hg, hf, hm, hc⟩ => by
    subst e
    have := cov_len T rest _ hc
    have h1 : 0 < t.text.length := may_pos hm
    simp only [List.length_cons, List.length_append]
    omega

theorem gap_step {G : List UInt8} {b r : Bool} {c : UInt8} {m : Nat} (h : gp false (G.take m) = some b) (hc : G[m]? = some c) (hG : gp false G = some r) :
    ∃ b', gp false (G.take (m + 1)) = some b' ∧ ((b = true ∧ c = 10 ∧ b' = false) ∨ (b = true ∧ c ≠ 10 ∧ b' = true) ∨ (b = false ∧ c = 35 ∧ b' = true) ∨ (b = false ∧ c = 32 ∧ b' = false) ∨ (b = false ∧ c = 9 ∧ b' = false) ∨ (b = false ∧ c = 10 ∧ b' = false)) := by
  have e1 : gp false (G.take (m + 1)) = gp b [c] := by
    rw [List.take_add_one, hc, gp_append, h]
    rfl
  have hne : gp b [c] ≠ none := by
    intro hn
    have e2 : G = G.take (m + 1) ++ G.drop (m + 1) := (List.take_append_drop _ _).symm
    rw [e2, gp_append, e1, hn] at hG
    cases hG
  rw [e1]
  by_cases h10 : c = 10
  · subst h10
    cases b
    · exact ⟨false, rfl, by simp⟩
    · exact ⟨false, rfl, by simp⟩
  · have n10 : (c != 10) = true := by simp [h10]
    cases b with
    | true =>
      refine ⟨true, ?_, .inr (.inl ⟨rfl, h10, rfl⟩)⟩
      simp [gp, n10]
    | false =>
      by_cases h35 : c = 35
      · subst h35
        exact ⟨true, rfl, by simp⟩
      · have n35 : (c == 35) = false := by simp [h35]
        cases hb : bl c with
        | false =>
          exfalso
          apply hne
          simp [gp, n35, hb]
        | true =>
          refine ⟨false, by simp [gp, n35, hb], ?_⟩
          simp only [bl, Bool.or_eq_true, beq_iff_eq] at hb
          rcases hb with (rfl | rfl) | rfl <;> simp

end Lx

/-
  parse.Parse: the tree of a text.
-/
namespace Go.Proofs.YtlhbgkaknfhlnaaGreat
open Go.RowKit Go.IntWalk Lx Pz
set_option linter.unusedVariables false

abbrev tr4 (a b c d : Value) : Array Value := #[a, b, c, d]
abbrev nil4 : Array Value := #[.slice none 0 0, .slice none 0 0, .slice none 0 0, .int .i64 0]

/-- The world behind a panic that was caught. -/
abbrev caught (w : World) (A B : Nat) : World := ((((w.setCell ⟨A, 0, none⟩ (.slice none 0 0)).setCell ⟨A, 1, none⟩ (.slice none 0 0)).setCell ⟨A, 2, none⟩ (.slice none 0 0)).setCell ⟨A, 3, none⟩ (.int .i64 0)).setCell ⟨B, 0, none⟩ (.int .i64 10)

set_option maxRecDepth 100000 in
set_option maxHeartbeats 1000000 in
theorem catch_panicking (A B : Nat) (x : Value) (u : TypeId) (pv : Value) (older : List PanicEntry) (w : World) (hA : HasC w A 46 nil4) (hB : HasC w B 31 #[x]) (hne : A ≠ B) :
    CallsD Tryz.prog 25 #[.pointer (some ⟨A, 0, none⟩), .pointer (some ⟨B, 0, none⟩)] (.panicking ({ v := .iface u pv, recovered := false } :: older)) w fun e u' w' =>
      e = .returned (.tuple #[]) ∧ u' = .panicking ({ v := .iface u pv, recovered := true } :: older) ∧ w' = caught w A B := by
  obtain ⟨c0, c1, c2, c3⟩ := facts4 hA
  obtain ⟨y0, y1, y2, y3⟩ := free4 hA
  have cB := hB.cell 0 rfl
  have yB := hB.frozen 0
  have e1 := (hA.set 0 (.slice none 0 0)).cell 1 rfl
  have z1 := (hA.set 0 (.slice none 0 0)).frozen 1
  have e2 := ((hA.set 0 (.slice none 0 0)).set 1 (.slice none 0 0)).cell 2 rfl
  have z2 := ((hA.set 0 (.slice none 0 0)).set 1 (.slice none 0 0)).frozen 2
  have e3 := (((hA.set 0 (.slice none 0 0)).set 1 (.slice none 0 0)).set 2 (.slice none 0 0)).cell 3 rfl
  have z3 := (((hA.set 0 (.slice none 0 0)).set 1 (.slice none 0 0)).set 2 (.slice none 0 0)).frozen 3
  have eB := ((((hB.other (p := ⟨A, 0, none⟩) (Ne.symm hne) (.slice none 0 0)).other (p := ⟨A, 1, none⟩) (Ne.symm hne) (.slice none 0 0)).other (p := ⟨A, 2, none⟩) (Ne.symm hne) (.slice none 0 0)).other (p := ⟨A, 3, none⟩) (Ne.symm hne) (.int .i64 0)).cell 0 rfl
  have zB := ((((hB.other (p := ⟨A, 0, none⟩) (Ne.symm hne) (.slice none 0 0)).other (p := ⟨A, 1, none⟩) (Ne.symm hne) (.slice none 0 0)).other (p := ⟨A, 2, none⟩) (Ne.symm hne) (.slice none 0 0)).other (p := ⟨A, 3, none⟩) (Ne.symm hne) (.int .i64 0)).frozen 0
  refine callsD_of_wpS Tryz.func25 rfl fun c₀ cs hu => ?_
  apply wpS_seq
  apply wpS_region
  simp [wpOpsS, go_sem, recoverD, hu, Tryz.ntmps25, Exit.thenS]
  refine wpS_cond (t := true) (by simp [Act.eval, Array.replicate]) ?_
  simp only [if_true]
  apply wpS_region
  simp [wpOpsS, go_sem, c0, y0, e1, z1, e2, z2, e3, z3, eB, zB, bodyPostS, results, Tryz.results25]

theorem catch_idle (p q : Value) (w : World) :
    CallsD Tryz.prog 25 #[p, q] .returning w fun e u' w' => e = .returned (.tuple #[]) ∧ u' = .returning ∧ w' = w := by
  refine callsD_of_wpS Tryz.func25 rfl fun c₀ cs hu => ?_
  apply wpS_seq
  apply wpS_region
  simp [wpOpsS, go_sem, recoverD, hu, Tryz.ntmps25, Exit.thenS]
  refine wpS_cond (t := false) (by simp [Act.eval, Array.replicate]) ?_
  simp only [Bool.false_eq_true, if_false]
  refine wpS_of_wp (wp_skip ?_)
  cases c₀
  simp_all [bodyPostS, results, Tryz.results25]

theorem caught_facts {w0 w : World} {A B : Nat} {a b c d x : Value} (hA : HasC w A 46 #[a, b, c, d]) (hB : HasC w B 31 #[x]) (hne : A ≠ B) (h0 : Below w0.heap.size w0 w) (hA0 : w0.heap.size ≤ A) (hB0 : w0.heap.size ≤ B) :
    HasC (caught w A B) A 46 nil4 ∧ HasC (caught w A B) B 31 #[.int .i64 10] ∧ Below w0.heap.size w0 (caught w A B) :=
  ⟨((((hA.set 0 (.slice none 0 0)).set 1 (.slice none 0 0)).set 2 (.slice none 0 0)).set 3 (.int .i64 0)).other (p := ⟨B, 0, none⟩) hne (.int .i64 10),
   ((((hB.other (p := ⟨A, 0, none⟩) (Ne.symm hne) (.slice none 0 0)).other (p := ⟨A, 1, none⟩) (Ne.symm hne) (.slice none 0 0)).other (p := ⟨A, 2, none⟩) (Ne.symm hne) (.slice none 0 0)).other (p := ⟨A, 3, none⟩) (Ne.symm hne) (.int .i64 0)).set 0 (.int .i64 10),
   ((((h0.setCell (p := ⟨A, 0, none⟩) hA0 _).setCell (p := ⟨A, 1, none⟩) hA0 _).setCell (p := ⟨A, 2, none⟩) hA0 _).setCell (p := ⟨A, 3, none⟩) hA0 _).setCell (p := ⟨B, 0, none⟩) hB0 _⟩

/-- A tree and an error, stored. -/
abbrev told (w : World) (A B : Nat) (a b c d x : Value) : World := ((((w.setCell ⟨A, 0, none⟩ a).setCell ⟨A, 1, none⟩ b).setCell ⟨A, 2, none⟩ c).setCell ⟨A, 3, none⟩ d).setCell ⟨B, 0, none⟩ x
theorem told_facts {w0 w : World} {A B : Nat} {a b c d x a' b' c' d' x' : Value} (hA : HasC w A 46 #[a', b', c', d']) (hB : HasC w B 31 #[x']) (hne : A ≠ B) (h0 : Below w0.heap.size w0 w) (hA0 : w0.heap.size ≤ A) (hB0 : w0.heap.size ≤ B) :
    HasC (told w A B a b c d x) A 46 #[a, b, c, d] ∧ HasC (told w A B a b c d x) B 31 #[x] ∧ Below w0.heap.size w0 (told w A B a b c d x) ∧ Kp [46, 31] w (told w A B a b c d x) :=
  ⟨((((hA.set 0 a).set 1 b).set 2 c).set 3 d).other (p := ⟨B, 0, none⟩) hne x,
   ((((hB.other (p := ⟨A, 0, none⟩) (Ne.symm hne) a).other (p := ⟨A, 1, none⟩) (Ne.symm hne) b).other (p := ⟨A, 2, none⟩) (Ne.symm hne) c).other (p := ⟨A, 3, none⟩) (Ne.symm hne) d).set 0 x,
   ((((h0.setCell (p := ⟨A, 0, none⟩) hA0 _).setCell (p := ⟨A, 1, none⟩) hA0 _).setCell (p := ⟨A, 2, none⟩) hA0 _).setCell (p := ⟨A, 3, none⟩) hA0 _).setCell (p := ⟨B, 0, none⟩) hB0 _,
   ((((Kp.set hA (by simp) 0 a).trans (Kp.set (hA.set 0 a) (by simp) 1 b)).trans (Kp.set ((hA.set 0 a).set 1 b) (by simp) 2 c)).trans (Kp.set (((hA.set 0 a).set 1 b).set 2 c) (by simp) 3 d)).trans
     (Kp.set ((((hB.other (p := ⟨A, 0, none⟩) (Ne.symm hne) a).other (p := ⟨A, 1, none⟩) (Ne.symm hne) b).other (p := ⟨A, 2, none⟩) (Ne.symm hne) c).other (p := ⟨A, 3, none⟩) (Ne.symm hne) d) (by simp) 0 x)⟩
theorem res_parse {F : World} {A B : Nat} {a b c d : Value} {x : Int} {tmps : Array Value} (hA : HasC F A 46 #[a, b, c, d]) (hB : HasC F B 31 #[.int .i64 x]) (h2 : tmps[2]? = some (.pointer (some ⟨A, 0, none⟩))) (h3 : tmps[3]? = some (.pointer (some ⟨B, 0, none⟩))) :
    (results Tryz.f11 tmps).run Tryz.prog F = .ok (.tuple #[.agg #[a, b, c, d], .int .i64 x]) F := by
  obtain ⟨c0, c1, c2, c3⟩ := facts4 hA
  have cB := hB.cell 0 rfl
  simp [results, Tryz.results11, go_sem, h2, h3, c0, c1, c2, c3, cB]
theorem owns_base {W : World} {base base' : Nat} {e : TypeId} {size : Nat} {v : Value} {n : Nat} {xs : List Value} (h : W.ownsRow base' e size v n xs) (hb : base ≤ base') : W.ownsRow base e size v n xs := by
  refine ⟨h.1, ?_⟩
  rcases h.2 with hn | ⟨g, cap, cur, rfl, hg, rest⟩
  · exact .inl hn
  · exact .inr ⟨g, cap, cur, rfl, by omega, rest⟩

theorem owns_form {W : World} {base : Nat} {e : TypeId} {size : Nat} {v : Value} {n : Nat} {xs : List Value} (h : W.ownsRow base e size v n xs) : ∃ a cap, v = .slice a n cap := by
  rcases h.2 with ⟨rfl, rfl⟩ | ⟨g, cap, cur, rfl, hg, rest⟩
  · exact ⟨_, _, rfl⟩
  · exact ⟨_, _, rfl⟩

/-- What Parse answers. -/
def ParP (w : World) (l : List UInt8) (e : Ending) (W' : World) : Prop :=
  (e = .returned (.tuple #[.agg nil4, .int .i64 10]) ∧ Below w.heap.size w W' ∧ (tks l = none ∨ ∃ T, tks l = some T ∧ Ans (T.map ab) none)) ∨
  (∃ T NM es ex nv bv dv, tks l = some T ∧ Ans (T.map ab) (some (NM, es, ex)) ∧ NM.length = es.length ∧ szL es + ex.size ≤ T.length ∧
    e = .returned (.tuple #[.agg (tr4 nv bv dv (.int .i64 (((szL es + ex.size : Nat) : Int) - 1))), .int .i64 0]) ∧ W'.ownsRow w.heap.size 9 1 nv NM.length (tx64 NM) ∧ W'.ownsRow w.heap.size 3 1 bv es.length (in64 (bdL es 0)) ∧
    W'.ownsRow w.heap.size 78 9 dv (szL es + ex.size) (nd64 (flL es 0 ++ ex.flat (szL es))) ∧ Below w.heap.size w W')

set_option maxRecDepth 100000 in
set_option maxHeartbeats 4000000 in
theorem parse_any (s : ByteArray) (w : World) : Calls Tryz.prog 11 #[.string s] w fun e W' => ParP w (bs s) e W' := by
  have hmf : ∀ (fn : Fn) (first cap : Array Value) (w : World), (Instr.makeFunc fn first cap).run Tryz.prog w = .ok (.func fn first cap) w := fun _ _ _ _ => rfl
  go_enter_defers Tryz.func11, Tryz.ntmps11
  go_wp2_with fail
  refine (tokens_any s _).mono ?_
  have HB0 := hide (bel (bel1 w (.cells nil4 46)) (bel1 (w.alloc (.cells nil4 46)) (.cells #[.int .i64 0] 31)))
  have HA0 := hide ((HasC.new w 46 nil4).alloc (.cells #[.int .i64 0] 31))
  have HE0 := hide (HasC.new (w.alloc (.cells nil4 46)) 31 #[.int .i64 0])
  rintro e W1 (⟨hn, rfl, hb⟩ | ⟨T, v, hT, rfl, ho, hb⟩)
  · have HN := hide hn
    have HB1 := hide (bel HB0.out hb)
    have HA := hide (HA0.out.below hb)
    have HE := hide (HE0.out.below hb)
    rw [World.size_alloc] at HE
    clear hn hb HB0 HA0 HE0
    have e0 := HE.out.cell 0 rfl
    have z0 := HE.out.frozen 0
    have e1 := (HE.out.set 0 (.int .i64 10)).cell 0 rfl
    have z1 := (HE.out.set 0 (.int .i64 10)).frozen 0
    have HAs := hide (HA.out.other (p := ⟨w.heap.size + 1, 0, none⟩) (show w.heap.size ≠ w.heap.size + 1 by omega) (.int .i64 10))
    obtain ⟨c0, c1, c2, c3⟩ := facts4 HAs.out
    obtain ⟨y0, y1, y2, y3⟩ := free4 HAs.out
    go_wp2_with fail
    have HF := caught_facts HAs.out (HE.out.set 0 (.int .i64 10)) (by omega) (HB1.out.setCell (p := ⟨w.heap.size + 1, 0, none⟩) (by simp) (.int .i64 10)) (Nat.le_refl _) (Nat.le_succ _)
    exact ⟨_, res_parse HF.1 HF.2.1 rfl rfl, .inl ⟨rfl, HF.2.2, .inl HN.out⟩⟩
  · have HT := hide hT
    have HB1 := hide (bel HB0.out hb)
    have HA := hide (HA0.out.below hb)
    have HE := hide (HE0.out.below hb)
    rw [World.size_alloc] at HE
    have hTl : T.length ≤ 1024 := by
      obtain ⟨h1, h2⟩ := tks_cov hT
      have := cov_len T _ 0 h1
      omega
    obtain ⟨a, cap, rfl, hToks, -⟩ := Toks.of_owns ho
    have HZ := hide (show Tz W1 a T.length cap T from ⟨hToks, fun x hx => by
      subst hx
      obtain ⟨-, cs, fr, h⟩ := owns_block ho x.block rfl
      exact ⟨cs, fr, h⟩⟩)
    have hAB : w.heap.size ≠ w.heap.size + 1 := by omega
    have HAs := hide (HA.out.other (p := ⟨w.heap.size + 1, 0, none⟩) hAB (.int .i64 0))
    have HEs := hide (HE.out.set 0 (.int .i64 0))
    have HBs := hide (HB1.out.setCell (p := ⟨w.heap.size + 1, 0, none⟩) (by simp) (.int .i64 0))
    have HZs := hide (HZ.out.kp (Kp.set HE.out (List.mem_singleton.2 rfl) 0 (.int .i64 0)) (by decide))
    have e0 := HE.out.cell 0 rfl
    have z0 := HE.out.frozen 0
    have e1 := HEs.out.cell 0 rfl
    clear hT hb HB0 HA0 HE0 ho hToks HZ HB1 HA HE
    go_wp2_with fail
    obtain ⟨S, hS⟩ : ∃ S, W1.setCell ⟨w.heap.size + 1, 0, none⟩ (.int .i64 0) = S := ⟨_, rfl⟩
    have hsz : W1.heap.size = S.heap.size := by rw [← hS]; simp [World.setCell]
    rw [hS] at HAs HEs HBs HZs
    rw [hS, hsz]
    clear e0 z0 e1 hS hsz
    have hRd : Rd S (S.alloc (.cells #[.slice a T.length cap, .slice none 0 0, .slice none 0 0, .slice none 0 0, .int .i64 0] 69)) S.heap.size ⟨a, T.length, cap, .slice none 0 0, .slice none 0 0, .slice none 0 0, 0⟩ T [] [] [] :=
      ⟨HasC.new _ _ _, Nat.le_refl _, HZs.out.kp (Kp.of_below [] (bel1 _ _)) (by simp), World.ownsRow_nil _ _ _ _, World.ownsRow_nil _ _ _ _, World.ownsRow_nil _ _ _ _, tks_wf HT.out, bel1 _ _⟩
    have HAa := hide (HAs.out.alloc (.cells #[.slice a T.length cap, .slice none 0 0, .slice none 0 0, .slice none 0 0, .int .i64 0] 69))
    have HEa := hide (HEs.out.alloc (.cells #[.slice a T.length cap, .slice none 0 0, .slice none 0 0, .slice none 0 0, .int .i64 0] 69))
    have HRd := hide hRd
    clear hRd HZs
    refine (program_rd HRd.out hTl).mono ?_
    rintro e W2 ⟨res, hRP, (⟨rfl, rfl, hb2⟩ | ⟨NM, es, ex, rfl, hln, hsz, rfl, ⟨m', hR, hroot⟩, hk⟩)⟩
    · have HRP := hide hRP.ans
      have HA2 := hide (HAs.out.below hb2)
      have HE2 := hide (HEs.out.below hb2)
      have HB2 := hide (bel HBs.out hb2)
      clear hb2 hRP
      go_wp2_with fail
      refine leaves_cons (f := 25) (args := #[.pointer (some ⟨w.heap.size, 0, none⟩), .pointer (some ⟨w.heap.size + 1, 0, none⟩)]) (by simp) (by simp [go_sem]) ?_
      refine (catch_panicking w.heap.size (w.heap.size + 1) (.int .i64 0) 31 _ [] W2 HA2.out HE2.out hAB).mono ?_
      rintro e u' w'' ⟨rfl, rfl, rfl⟩
      have HF := caught_facts HA2.out HE2.out hAB HB2.out (Nat.le_refl _) (Nat.le_succ _)
      exact ⟨_, res_parse HF.1 HF.2.1 rfl rfl, .inl ⟨rfl, HF.2.2, .inr ⟨T, HT.out, HRP.out⟩⟩⟩
    · have HRP := hide hRP.ans
      have HA2 := hide (HAa.out.kp hk (by decide))
      have HE2 := hide (HEa.out.kp hk (by decide))
      have HB2 := hide (HBs.out.trans (hR.old.mono HBs.out.size))
      have HR2 := hide hR
      have HLN := hide hln
      have HSZ := hide hsz
      obtain ⟨la, ln, lc, nv, bv, dv, root⟩ := m'
      simp only at hroot
      subst hroot
      obtain ⟨zz, hzz⟩ : ∃ zz : Int, ((szL es + ex.size : Nat) : Int) - 1 = zz := ⟨_, rfl⟩
      have HZZ := hide hzz
      rw [hzz] at HR2
      obtain ⟨na, nc, hnv⟩ := owns_form HR2.out.names
      obtain ⟨ba, bc, hbv⟩ := owns_form HR2.out.binds
      obtain ⟨da, dc, hdv⟩ := owns_form HR2.out.nodes
      simp only at hnv hbv hdv
      generalize hn1 : NM.length = n1 at hnv
      generalize hn2 : (bdL es 0).length = n2 at hbv
      generalize hn3 : (flL es 0 ++ ex.flat (szL es)).length = n3 at hdv
      subst hnv hbv hdv
      clear hn1 hn2 hn3
      have c1 : W2.cell? ⟨S.heap.size, 1, none⟩ = some (.slice na n1 nc) := HR2.out.blk.cell 1 rfl
      have c2 : W2.cell? ⟨S.heap.size, 2, none⟩ = some (.slice ba n2 bc) := HR2.out.blk.cell 2 rfl
      have c3 : W2.cell? ⟨S.heap.size, 3, none⟩ = some (.slice da n3 dc) := HR2.out.blk.cell 3 rfl
      have c4 : W2.cell? ⟨S.heap.size, 4, none⟩ = some (.int .i64 zz) := HR2.out.blk.cell 4 rfl
      obtain ⟨f0, f1, f2, f3⟩ := facts4 HA2.out
      obtain ⟨y0, y1, y2, y3⟩ := free4 HA2.out
      have fB := HE2.out.cell 0 rfl
      have yB := HE2.out.frozen 0
      have e1 := (HA2.out.set 0 (.slice na n1 nc)).cell 1 rfl
      have z1 := (HA2.out.set 0 (.slice na n1 nc)).frozen 1
      have e2 := ((HA2.out.set 0 (.slice na n1 nc)).set 1 (.slice ba n2 bc)).cell 2 rfl
      have z2 := ((HA2.out.set 0 (.slice na n1 nc)).set 1 (.slice ba n2 bc)).frozen 2
      have e3 := (((HA2.out.set 0 (.slice na n1 nc)).set 1 (.slice ba n2 bc)).set 2 (.slice da n3 dc)).cell 3 rfl
      have z3 := (((HA2.out.set 0 (.slice na n1 nc)).set 1 (.slice ba n2 bc)).set 2 (.slice da n3 dc)).frozen 3
      have HEE := hide ((((HE2.out.other (p := ⟨w.heap.size, 0, none⟩) (Ne.symm hAB) (.slice na n1 nc)).other (p := ⟨w.heap.size, 1, none⟩) (Ne.symm hAB) (.slice ba n2 bc)).other (p := ⟨w.heap.size, 2, none⟩) (Ne.symm hAB) (.slice da n3 dc)).other (p := ⟨w.heap.size, 3, none⟩) (Ne.symm hAB) (.int .i64 zz))
      have eB := HEE.out.cell 0 rfl
      have zB := HEE.out.frozen 0
      clear hR hk hRP hln hsz hzz
      go_wp2_with fail
      refine leaves_cons (f := 25) (args := #[.pointer (some ⟨w.heap.size, 0, none⟩), .pointer (some ⟨w.heap.size + 1, 0, none⟩)]) (by simp) (by simp [go_sem]) ?_
      refine (catch_idle _ _ _).mono ?_
      rintro e u' w'' ⟨rfl, rfl, rfl⟩
      obtain ⟨q1, q2, q3, q4⟩ := told_facts (a := (.slice na n1 nc)) (b := (.slice ba n2 bc)) (c := (.slice da n3 dc)) (d := .int .i64 zz) (x := .int .i64 0) HA2.out HE2.out hAB HB2.out (Nat.le_refl _) (Nat.le_succ _)
      refine ⟨_, res_parse q1 q2 rfl rfl, .inr ⟨T, NM, es, ex, (.slice na n1 nc), (.slice ba n2 bc), (.slice da n3 dc), HT.out, HRP.out, HLN.out, HSZ.out, by rw [HZZ.out], owns_kp (owns_base HR2.out.names HBs.out.size) q4 (by decide), ?_, ?_, q3⟩⟩
      · have := owns_kp (owns_base HR2.out.binds HBs.out.size) q4 (by decide)
        rw [bdL_len] at this
        exact this
      · have := owns_kp (owns_base HR2.out.nodes HBs.out.size) q4 (by decide)
        rw [List.length_append, flL_len, E.flat_len] at this
        exact this

end Go.Proofs.YtlhbgkaknfhlnaaGreat

/-
  Trees in memory: nodes, binds, names; awake.
-/
namespace Go.Proofs.YtlhbgkaknfhlnaaGreat
open Go.RowKit Go.IntWalk Lx Pz
set_option linter.unusedVariables false

def n0 : Nd := ⟨0, 0, 0, 0, 0, 0, 0, 0, 0⟩
theorem nd64_get : ∀ (L : List Nd) (i : Nat), i < L.length → ∀ j v, (nd9 (L.getD i n0))[j]? = some v → (nd64 L)[i * 9 + j]? = some v
  | [], i, h => by simp at h
  | p :: L, 0, h => fun j v hv => by
    have hj : j < 9 := by
      rcases Nat.lt_or_ge j 9 with h | h
      · exact h
      · rw [List.getElem?_eq_none (by simpa [nd9] using h)] at hv; cases hv
    simp only [nd64, List.flatMap_cons, Nat.zero_mul, Nat.zero_add]
    rw [List.getElem?_append_left (by simpa [nd9] using hj)]
    simpa using hv
  | p :: L, i + 1, h => fun j v hv => by
    have := nd64_get L i (by simpa using h) j v (by simpa using hv)
    simp only [nd64, List.flatMap_cons] at this ⊢
    rw [List.getElem?_append_right (by simp [nd9]; omega)]
    rw [show (i + 1) * 9 + j - (nd9 p).length = i * 9 + j by simp [nd9]; omega]
    exact this

/-- The slice reads as these nodes. -/
structure Nz (W : World) (a : Option Addr) (n cap : Nat) (L : List Nd) : Prop where
  len : L.length = n
  le : n ≤ cap
  max : cap ≤ maxLen
  cell : n = 0 ∨ ∃ b off, a = some ⟨b, off, none⟩ ∧ b < W.heap.size ∧ ∀ i, i < n → ∀ j v, (nd9 (L.getD i n0))[j]? = some v → W.cell? ⟨b, off + i * 9 + j, none⟩ = some v
/-- The slice reads as these numbers. -/
structure Iz (W : World) (a : Option Addr) (n cap : Nat) (L : List Int) : Prop where
  len : L.length = n
  le : n ≤ cap
  max : cap ≤ maxLen
  cell : n = 0 ∨ ∃ b off, a = some ⟨b, off, none⟩ ∧ b < W.heap.size ∧ ∀ i, i < n → W.cell? ⟨b, off + i, none⟩ = some (.int .i64 (L.getD i 0))
theorem Nz.of_owns {W : World} {base : Nat} {v : Value} {n : Nat} {L : List Nd} (h : W.ownsRow base 78 9 v n (nd64 L)) : ∃ a cap, v = .slice a n cap ∧ Nz W a n cap L := by
  have hl : L.length = n := by have := h.1; rw [nd64_len] at this; omega
  have hcs := fun g hg => h.cells (g := g) hg
  have hlt := h.lt
  rcases h.2 with ⟨rfl, rfl⟩ | ⟨g, cap, cur, rfl, hb, hg, hnc, hcm, hsz, htake⟩
  · exact ⟨none, 0, rfl, ⟨hl, Nat.le_refl _, Nat.zero_le _, .inl rfl⟩⟩
  · refine ⟨some ⟨g, 0, none⟩, cap, rfl, ⟨hl, hnc, hcm, .inr ⟨g, 0, rfl, (hlt g rfl).2, fun i hi j u hu => ?_⟩⟩⟩
    have := hcs g rfl _ _ (nd64_get L i (by omega) j u hu)
    rw [Addr.add_lit] at this
    rw [Nat.add_assoc]
    exact this
theorem Iz.of_owns {W : World} {base : Nat} {v : Value} {n : Nat} {L : List Int} (h : W.ownsRow base 3 1 v n (in64 L)) : ∃ a cap, v = .slice a n cap ∧ Iz W a n cap L := by
  have hl : L.length = n := by have := h.1; simpa using this
  have hcs := fun g hg => h.cells (g := g) hg
  have hlt := h.lt
  rcases h.2 with ⟨rfl, rfl⟩ | ⟨g, cap, cur, rfl, hb, hg, hnc, hcm, hsz, htake⟩
  · exact ⟨none, 0, rfl, ⟨hl, Nat.le_refl _, Nat.zero_le _, .inl rfl⟩⟩
  · refine ⟨some ⟨g, 0, none⟩, cap, rfl, ⟨hl, hnc, hcm, .inr ⟨g, 0, rfl, (hlt g rfl).2, fun i hi => ?_⟩⟩⟩
    have := hcs g rfl i (.int .i64 (L.getD i 0)) (by rw [List.getElem?_map, List.getD_eq_getElem?_getD, List.getElem?_eq_getElem (by omega)]; rfl)
    rwa [Addr.add_lit] at this
theorem Nz.later {W W' : World} {a : Option Addr} {n cap : Nat} {L : List Nd} (h : Nz W a n cap L) (hb : Below W.heap.size W W') : Nz W' a n cap L := by
  refine ⟨h.len, h.le, h.max, ?_⟩
  rcases h.cell with h0 | ⟨b, off, ha, hlt, hc⟩
  · exact .inl h0
  · exact .inr ⟨b, off, ha, Nat.lt_of_lt_of_le hlt hb.size, fun i hi j v hv => (hb.cell (p := ⟨b, off + i * 9 + j, none⟩) hlt).trans (hc i hi j v hv)⟩
theorem Iz.later {W W' : World} {a : Option Addr} {n cap : Nat} {L : List Int} (h : Iz W a n cap L) (hb : Below W.heap.size W W') : Iz W' a n cap L := by
  refine ⟨h.len, h.le, h.max, ?_⟩
  rcases h.cell with h0 | ⟨b, off, ha, hlt, hc⟩
  · exact .inl h0
  · exact .inr ⟨b, off, ha, Nat.lt_of_lt_of_le hlt hb.size, fun i hi => (hb.cell (p := ⟨b, off + i, none⟩) hlt).trans (hc i hi)⟩
theorem Tx.later {W W' : World} {a : Option Addr} {n cap : Nat} {L : List Txt} (h : Tx W a n cap L) (hb : Below W.heap.size W W') : Tx W' a n cap L := by
  refine ⟨h.len, h.le, h.max, ?_⟩
  rcases h.cell with h0 | ⟨b, off, ha, hc⟩
  · exact .inl h0
  · by_cases hn : n = 0
    · exact .inl hn
    · have hlt := World.block_lt_of_cell? W _ (hc 0 (by omega))
      exact .inr ⟨b, off, ha, fun i hi => (hb.cell (p := ⟨b, off + i, none⟩) hlt).trans (hc i hi)⟩

/-- What Parse answers, read. -/
def ParR (w : World) (l : List UInt8) (e : Ending) (W' : World) : Prop :=
  (e = .returned (.tuple #[.agg nil4, .int .i64 10]) ∧ Below w.heap.size w W' ∧ (tks l = none ∨ ∃ T, tks l = some T ∧ Ans (T.map ab) none)) ∨
  (∃ T NM es ex na nc ba bc da dc, tks l = some T ∧ Ans (T.map ab) (some (NM, es, ex)) ∧ NM.length = es.length ∧ szL es + ex.size ≤ T.length ∧
    e = .returned (.tuple #[.agg (tr4 (.slice na es.length nc) (.slice ba es.length bc) (.slice da (szL es + ex.size) dc) (.int .i64 (((szL es + ex.size : Nat) : Int) - 1))), .int .i64 0]) ∧ Tx W' na es.length nc NM ∧ Iz W' ba es.length bc (bdL es 0) ∧
    Nz W' da (szL es + ex.size) dc (flL es 0 ++ ex.flat (szL es)) ∧ Below w.heap.size w W')
theorem parse_read (s : ByteArray) (w : World) : Calls Tryz.prog 11 #[.string s] w fun e W' => ParR w (bs s) e W' := by
  refine (parse_any s w).mono ?_
  rintro e W' (h | ⟨T, NM, es, ex, nv, bv, dv, h1, h2, h3, h4, h5, h6, h7, h8, h9⟩)
  · exact .inl h
  · obtain ⟨na, nc, rfl, hx⟩ := Tx.of_owns h6
    obtain ⟨ba, bc, rfl, hi⟩ := Iz.of_owns h7
    obtain ⟨da, dc, rfl, hn⟩ := Nz.of_owns h8
    rw [h3] at hx h5
    exact .inr ⟨T, NM, es, ex, na, nc, ba, bc, da, dc, h1, h2, h3, h4, h5, hx, hi, hn, h9⟩

/- awake -/
theorem sc1 {c : UInt8} {r : List UInt8} {p : Nat} {T : List Tok} {k : Int} (h1 : bl c = false) (h2 : c ≠ 35) (h : gd (c :: r) = true) (hz : sz (c :: r) = 1) (hk : kd (c :: r) = k) (hr : sc r (p + 1) = some T) : sc (c :: r) p = some (⟨k, [c], p⟩ :: T) := by
  rw [sc_tok h1 h2 h, hz, hk]
  simp only [List.drop_succ_cons, List.drop_zero, List.take_succ_cons, List.take_zero, hr, Option.map_some]
theorem G.ups {nm : List Txt} {l : List Tk} {e : E} {c : Nat} (h : G nm c l e) : ∀ {c' : Nat}, c' ≤ c → c ≤ 8 → G nm c' l e := by
  induction c with
  | zero => intro c' h1 h2; obtain rfl : c' = 0 := by omega
            exact h
  | succ c ih =>
    intro c' h1 h2
    by_cases e : c' = c + 1
    · subst e; exact h
    · exact ih (G.up (by omega) h) (by omega) (by omega)

end Go.Proofs.YtlhbgkaknfhlnaaGreat
