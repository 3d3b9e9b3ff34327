/-
  parse.Check.
-/
import Derived.Test.YtodgjjkpbcadoaaDoorCk4
namespace Go.Proofs.YtodgjjkpbcadoaaDoor
open Go.RowKit Go.IntWalk Lx Pz
set_option linter.unusedVariables false

theorem step_bd {BS : List Int} {i : Nat} {n : Nd} {s t : List Int × Nat} (h : stepP BS i n s = some t) : t.2 ≤ s.2 + 1 := by
  unfold stepP at h
  split at h
  · split at h
    · split at h
      · cases h; exact Nat.le_refl _
      · cases h
    · cases h; exact Nat.le_succ _
  · cases h
theorem mach_bd {BS : List Int} : ∀ {NS : List Nd} {i : Nat} {s t : List Int × Nat}, mach BS i NS s = some t → t.2 ≤ s.2 + NS.length
  | [], i, s, t, h => by cases h; exact Nat.le_refl _
  | n :: NS, i, s, t, h => by
    simp only [mach] at h
    cases hs : stepP BS i n s with
    | none => rw [hs] at h; cases h
    | some u =>
      rw [hs] at h
      have h1 := step_bd hs
      have h2 := mach_bd (show mach BS (i + 1) NS u = some t from h)
      simp only [List.length_cons]
      omega
theorem ord_len {BS : List Int} {NS : List Nd} (h : ordP BS NS = true) : BS.length ≤ NS.length := by
  unfold ordP at h
  split at h
  · rename_i s hs
    have := mach_bd hs
    simp only [Bool.and_eq_true, beq_iff_eq] at h
    simp at this
    omega
  · cases h

def chkP (NM : List Txt) (BS : List Int) (NS : List Nd) (root : Int) : Bool := NM.length == BS.length && (endsP NS.length root && (ordP BS NS && nmB NM))

set_option maxRecDepth 100000 in
set_option maxHeartbeats 4000000 in
theorem check_any {W : World} {na ba da : Option Addr} {nl nc bl bc dl dc : Nat} {root : Int} {NM : List Txt} {BS : List Int} {NS : List Nd} (hX : Tx W na nl nc NM) (hB : Iz W ba bl bc BS) (hN : Nz W da dl dc NS) (hs : ∀ s ∈ NM, s.length ≤ 9223372036854775807) :
    Calls Tryd.prog 8 #[.agg (tr4 (.slice na nl nc) (.slice ba bl bc) (.slice da dl dc) (.int .i64 root))] W fun e W' => e = .returned (.int .i64 (if chkP NM BS NS root then 0 else 3)) ∧ Below W.heap.size W W' := by
  have hdl : dl ≤ 9223372036854775807 := by have := hN.le; have := hN.max; unfold maxLen at *; omega
  unfold chkP
  rw [hX.len, hB.len, hN.len]
  have hb0 := bel1 W (.cells (tr4 (.slice na nl nc) (.slice ba bl bc) (.slice da dl dc) (.int .i64 root)) 26)
  have HB := hide hb0
  have HC := hide (HasC.new W 26 (tr4 (.slice na nl nc) (.slice ba bl bc) (.slice da dl dc) (.int .i64 root)))
  have HX := hide (hX.later hb0)
  have HBI := hide (hB.later hb0)
  have HN := hide (hN.later hb0)
  have HLB := hide hB.len
  have HLN := hide hN.len
  have HS := hide hs
  clear hX hB hN hb0 hs
  by_cases h1 : nl = bl
  · subst h1
    have k1 : ((nl : Int) != (nl : Int)) = false := by simp
    rw [show (nl == nl) = true by simp, Bool.true_and]
    have HE := hide fun V => ends_any (.slice na nl nc) (.slice ba nl bc) da dl dc root V hdl ⟨_, _, _, rfl⟩ ⟨_, _, _, rfl⟩
    cases he : endsP dl root with
    | false =>
      rw [he] at HE
      rw [Bool.false_and]
      clear he
      go_enter Tryd.func8, Tryd.ntmps8
      go_wp2_with fail
      refine (HE.out _).mono ?_
      rintro e V1 ⟨rfl, hb1⟩
      have HB1 := hide (bel HB.out hb1)
      clear hb1
      go_wp2_with fail
      go_ret
      exact ⟨rfl, HB1.out⟩
    | true =>
      rw [he] at HE
      rw [Bool.true_and]
      have hd4 : dl ≤ 1024 := by simp [endsP, wthn] at he; omega
      clear he
      cases ho : ordP BS NS with
      | false =>
        rw [Bool.false_and]
        have HO := hide ho
        clear ho
        go_enter Tryd.func8, Tryd.ntmps8
        go_wp2_with fail
        refine (HE.out _).mono ?_
        rintro e V1 ⟨rfl, hb1⟩
        have HB1 := hide (bel HB.out hb1)
        obtain ⟨t0, t1, t2, t3⟩ := facts4 (HC.out.below hb1)
        have HI := hide (fun na nl nc root => inOrder_any (na := na) (nl := nl) (nc := nc) (root := root) (HBI.out.later hb1) (HN.out.later hb1) hd4)
        rw [HO.out] at HI
        clear hb1 HB
        go_wp2_with fail
        refine (HI.out _ _ _ _).mono ?_
        rintro e V2 ⟨rfl, hb1⟩
        have HB2 := hide (bel HB1.out hb1)
        clear hb1
        go_wp2_with fail
        go_ret
        exact ⟨rfl, HB2.out⟩
      | true =>
        rw [Bool.true_and]
        have HO := hide ho
        have hn4 : nl ≤ 1024 := by have := ord_len ho; rw [HLB.out, HLN.out] at this; omega
        clear ho
        generalize hz : nmB NM = z
        have HZ := hide hz
        clear hz
        go_enter Tryd.func8, Tryd.ntmps8
        go_wp2_with fail
        refine (HE.out _).mono ?_
        rintro e V1 ⟨rfl, hb1⟩
        have HB1 := hide (bel HB.out hb1)
        have HC1 := hide (HC.out.below hb1)
        obtain ⟨t0, t1, t2, t3⟩ := facts4 HC1.out
        have HI := hide (fun na nl nc root => inOrder_any (na := na) (nl := nl) (nc := nc) (root := root) (HBI.out.later hb1) (HN.out.later hb1) hd4)
        have HX1 := hide (HX.out.later hb1)
        rw [HO.out] at HI
        clear hb1 HB
        go_wp2_with fail
        refine (HI.out _ _ _ _).mono ?_
        rintro e V2 ⟨rfl, hb1⟩
        have HB2 := hide (bel HB1.out hb1)
        obtain ⟨s0, s1, s2, s3⟩ := facts4 (HC1.out.below hb1)
        have HM := hide (bound_any (HX1.out.later hb1) hn4 HS.out)
        rw [HZ.out] at HM
        clear hb1
        cases z
        all_goals
          go_wp2_with fail
          refine (HM.out).mono ?_
          rintro e V3 ⟨rfl, hb1⟩
          have HB3 := hide (bel HB2.out hb1)
          clear hb1
          go_wp2_with fail
          go_ret
          exact ⟨rfl, HB3.out⟩
  · have k1 : ((nl : Int) != (bl : Int)) = true := by simp; omega
    rw [show (nl == bl) = false by simpa using h1, Bool.false_and]
    go_enter Tryd.func8, Tryd.ntmps8
    go_wp2_with fail
    go_ret
    exact ⟨rfl, HB.out⟩

end Go.Proofs.YtodgjjkpbcadoaaDoor
