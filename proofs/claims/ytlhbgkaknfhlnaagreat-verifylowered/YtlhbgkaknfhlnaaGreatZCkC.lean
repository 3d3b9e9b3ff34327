/-
  parse.Check.
-/
import Derived.Test.YtlhbgkaknfhlnaaGreatZCk4
namespace Go.Proofs.YtlhbgkaknfhlnaaGreat
open Go.RowKit Go.IntWalk Lx Pz
set_option linter.unusedVariables false

theorem step_bd {BS : List Int} {i : Nat} {n : Nd} {s t : List Int × Nat} (h : stepP BS i n s = some t) : t.2 ≤ s.2 + 1 := by
  unfold stepP at h
  split at h
  · split at h
    · split at h
      · cases h; exact Nat.le_refl _
      · cases h
    · cases h; exact Nat.le_succ _
  · cases h
theorem mach_bd {BS : List Int} : ∀ {NS : List Nd} {i : Nat} {s t : List Int × Nat}, mach BS i NS s = some t → t.2 ≤ s.2 + NS.length
  | [], i, s, t, h => by cases h; exact Nat.le_refl _
  | n :: NS, i, s, t, h => by
    simp only [mach] at h
    cases hs : stepP BS i n s with
    | none => rw [hs] at h; cases h
    | some u =>
      rw [hs] at h
      have h1 := step_bd hs
      have h2 := mach_bd (show mach BS (i + 1) NS u = some t from h)
      simp only [List.length_cons]
      omega
theorem ord_len {BS : List Int} {NS : List Nd} (h : ordP BS NS = true) : BS.length ≤ NS.length := by
  unfold ordP at h
  split at h
  · rename_i s hs
    have := mach_bd hs
    simp only [Bool.and_eq_true, beq_iff_eq] at h
    simp at this
    omega
  · cases h

def chkP (NM : List Txt) (BS : List Int) (NS : List Nd) (root : Int) : Bool := NM.length == BS.length && (endsP NS.length root && (ordP BS NS && nmB NM))

set_option maxRecDepth 100000 in
set_option maxHeartbeats 4000000 in
theorem check_any {W : World} {na ba da : Option Addr} {nl nc bl bc dl dc : Nat} {root : Int} {NM : List Txt} {BS : List Int} {NS : List Nd} (hX : Tx W na nl nc NM) (hB : Iz W ba bl bc BS) (hN : Nz W da dl dc NS) (hs : ∀ s ∈ NM, s.length ≤ 9223372036854775807) :
    Calls Tryz.prog 52 #[.agg (tr4 (.slice na nl nc) (.slice ba bl bc) (.slice da dl dc) (.int .i64 root))] W fun e W' => e = .returned (.int .i64 (if chkP NM BS NS root then 0 else 3)) ∧ Below W.heap.size W W' := by
  have hdl : dl ≤ 9223372036854775807 := by have := hN.le; have := hN.max; unfold maxLen at *; omega
  unfold chkP
  rw [hX.len, hB.len, hN.len]
  have hb0 := bel1 W (.cells (tr4 (.slice na nl nc) (.slice ba bl bc) (.slice da dl dc) (.int .i64 root)) 46)
  have HB := hide hb0
  have HC := hide (HasC.new W 46 (tr4 (.slice na nl nc) (.slice ba bl bc) (.slice da dl dc) (.int .i64 root)))
  have HX := hide (hX.later hb0)
  have HBI := hide (hB.later hb0)
  have HN := hide (hN.later hb0)
  have HLB := hide hB.len
  have HLN := hide hN.len
  have HS := hide hs
  clear hX hB hN hb0 hs
  by_cases h1 : nl = bl
  · subst h1
    have k1 : ((nl : Int) != (nl : Int)) = false := by simp
    rw [show (nl == nl) = true by simp, Bool.true_and]
    have HE := hide fun V => ends_any (.slice na nl nc) (.slice ba nl bc) da dl dc root V hdl ⟨_, _, _, rfl⟩ ⟨_, _, _, rfl⟩
    cases he : endsP dl root with
    | false =>
      rw [he] at HE
      rw [Bool.false_and]
      clear he
      go_enter Tryz.func52, Tryz.ntmps52
      go_wp2_with fail
      refine (HE.out _).mono ?_
      rintro e V1 ⟨rfl, hb1⟩
      have HB1 := hide (bel HB.out hb1)
      clear hb1
      go_wp2_with fail
      go_ret
      exact ⟨rfl, HB1.out⟩
    | true =>
      rw [he] at HE
      rw [Bool.true_and]
      have hd4 : dl ≤ 1024 := by simp [endsP, wthn] at he; omega
      clear he
      cases ho : ordP BS NS with
      | false =>
        rw [Bool.false_and]
        have HO := hide ho
        clear ho
        go_enter Tryz.func52, Tryz.ntmps52
        go_wp2_with fail
        refine (HE.out _).mono ?_
        rintro e V1 ⟨rfl, hb1⟩
        have HB1 := hide (bel HB.out hb1)
        obtain ⟨t0, t1, t2, t3⟩ := facts4 (HC.out.below hb1)
        have HI := hide (fun na nl nc root => inOrder_any (na := na) (nl := nl) (nc := nc) (root := root) (HBI.out.later hb1) (HN.out.later hb1) hd4)
        rw [HO.out] at HI
        clear hb1 HB
        go_wp2_with fail
        refine (HI.out _ _ _ _).mono ?_
        rintro e V2 ⟨rfl, hb1⟩
        have HB2 := hide (bel HB1.out hb1)
        clear hb1
        go_wp2_with fail
        go_ret
        exact ⟨rfl, HB2.out⟩
      | true =>
        rw [Bool.true_and]
        have HO := hide ho
        have hn4 : nl ≤ 1024 := by have := ord_len ho; rw [HLB.out, HLN.out] at this; omega
        clear ho
        generalize hz : nmB NM = z
        have HZ := hide hz
        clear hz
        go_enter Tryz.func52, Tryz.ntmps52
        go_wp2_with fail
        refine (HE.out _).mono ?_
        rintro e V1 ⟨rfl, hb1⟩
        have HB1 := hide (bel HB.out hb1)
        have HC1 := hide (HC.out.below hb1)
        obtain ⟨t0, t1, t2, t3⟩ := facts4 HC1.out
        have HI := hide (fun na nl nc root => inOrder_any (na := na) (nl := nl) (nc := nc) (root := root) (HBI.out.later hb1) (HN.out.later hb1) hd4)
        have HX1 := hide (HX.out.later hb1)
        rw [HO.out] at HI
        clear hb1 HB
        go_wp2_with fail
        refine (HI.out _ _ _ _).mono ?_
        rintro e V2 ⟨rfl, hb1⟩
        have HB2 := hide (bel HB1.out hb1)
        obtain ⟨s0, s1, s2, s3⟩ := facts4 (HC1.out.below hb1)
        have HM := hide (bound_any (HX1.out.later hb1) hn4 HS.out)
        rw [HZ.out] at HM
        clear hb1
        cases z
        all_goals
          go_wp2_with fail
          refine (HM.out).mono ?_
          rintro e V3 ⟨rfl, hb1⟩
          have HB3 := hide (bel HB2.out hb1)
          clear hb1
          go_wp2_with fail
          go_ret
          exact ⟨rfl, HB3.out⟩
  · have k1 : ((nl : Int) != (bl : Int)) = true := by simp; omega
    rw [show (nl == bl) = false by simpa using h1, Bool.false_and]
    go_enter Tryz.func52, Tryz.ntmps52
    go_wp2_with fail
    go_ret
    exact ⟨rfl, HB.out⟩

end Go.Proofs.YtlhbgkaknfhlnaaGreat

/-
  The tree of a program is one that Check takes: plain lists.
-/
namespace Go.Proofs.YtlhbgkaknfhlnaaGreat
open Lx Pz
set_option linter.unusedVariables false

def okT : Tk → Bool
  | .num v => decide (0 ≤ v) && decide (v ≤ 2147483647)
  | .op _ o => prZ o == 2
  | .word s => wrd s
  | _ => true
theorem okT_ab {t : Tok} (h : Wf t) : okT (ab t) = true := by
  rcases h with ⟨hk, h⟩ | ⟨hk, h⟩ | ⟨hk, h⟩
  · simp only [ab, hk, if_true, okT]
    simp only [num, Bool.and_eq_true, decide_eq_true_eq] at h
    simp only [Bool.and_eq_true, decide_eq_true_eq]
    exact ⟨vl_nonneg h.1.1.2, h.2⟩
  · rw [show ab t = .word t.text by simp [ab, hk]]
    exact h
  · rw [show ab t = mkT t.text by simp [ab, hk]]
    have : ∀ s ∈ marks.map (·.1), okT (mkT s) = true := by decide
    exact this _ h

def Gd (bd : Nat) : E → Prop
  | .leaf n => n.a = 0 ∧ n.b = 0 ∧ n.c = 0 ∧ prZ n.op = 0 ∧ fldP n bd = true
  | .un o a => prZ o = 1 ∧ Gd bd a
  | .bin o a b => prZ o = 2 ∧ Gd bd a ∧ Gd bd b
  | .tri o a b c => prZ o = 3 ∧ Gd bd a ∧ Gd bd b ∧ Gd bd c

theorem fld_in {o : Int} (h : 0 < prZ o) (a b c : Int) (bd : Int) : fldP ⟨o, a, b, c, 0, 0, 0, 0, 0⟩ bd = true := by
  have h1 : o ≠ 1 := by intro e; subst e; revert h; decide
  have h2 : o ≠ 2 := by intro e; subst e; revert h; decide
  have h3 : o ≠ 3 := by intro e; subst e; revert h; decide
  have h4 : o ≠ 4 := by intro e; subst e; revert h; decide
  simp [fldP, mostZ, h1, h2, h3, h4, plc0, wthn]

theorem off_ok {l r : List Tk} {x : Int} (h : off l = some (x, r)) (hl : l.all okT = true) : wthn x (-MX) MX = true ∧ r.all okT = true := by
  unfold off at h
  split at h
  · cases h
    simp only [List.all_cons, okT, Bool.and_eq_true, decide_eq_true_eq] at hl
    simp only [wthn, MX, Bool.and_eq_true, decide_eq_true_eq]
    exact ⟨⟨by omega, by omega⟩, hl.2⟩
  · split at h
    · cases h
      simp only [List.all_cons, okT, Bool.and_eq_true, decide_eq_true_eq] at hl
      simp only [wthn, MX, Bool.and_eq_true, decide_eq_true_eq]
      exact ⟨⟨by omega, by omega⟩, hl.2.2⟩
    · cases h
  · cases h
theorem offs_ok {back : Int} {l r : List Tk} {e : E} {bd : Nat} (h : offs back l = some (e, r)) (hl : l.all okT = true) (hb : wthn back 0 MX = true) : Gd bd e := by
  unfold offs at h
  split at h
  · rename_i x r0 ho
    cases h
    have h1 := (off_ok ho hl).1
    refine ⟨rfl, rfl, rfl, rfl, ?_⟩
    simp only [fldP, mayP, if_true, h1, hb]
    decide
  · rename_i x r0 ho
    have h1 := off_ok ho hl
    split at h
    · rename_i y r2 ho2
      cases h
      have h2 := off_ok ho2 (by have := h1.2; simp only [List.all_cons, Bool.and_eq_true] at this; exact this.2)
      refine ⟨rfl, rfl, rfl, rfl, ?_⟩
      simp only [fldP, mayP, if_true, h1.1, h2.1, hb]
      rfl
    · cases h
  · cases h
theorem plc_ok {q : Bool} {l r : List Tk} {e : E} {bd : Nat} (h : plc q l = some (e, r)) (hl : l.all okT = true) : Gd bd e := by
  unfold plc at h
  split at h
  · simp only [List.all_cons, Bool.and_eq_true] at hl
    split at h
    · split at h
      · split at h
        · cases h
        · simp only [List.all_cons, okT, Bool.and_eq_true, decide_eq_true_eq] at hl
          exact offs_ok h hl.2.2.2 (by simp only [wthn, MX, Bool.and_eq_true, decide_eq_true_eq]; omega)
      · cases h
    · exact offs_ok h hl.2 (by decide)
  · cases h
theorem calO_pr {s : Txt} (h : 0 < ari (calO s)) : prZ (calO s) = ari (calO s) := by
  have hc := ari_ne h
  clear h
  unfold calO at hc ⊢
  repeat' split at hc
  all_goals first | (exact absurd rfl hc) | skip
  all_goals simp only [*, if_true] <;> decide
theorem wd_ok {nm : List Txt} {s : Txt} {e : E} (h : wd nm s = some e) : Gd nm.length e := by
  unfold wd at h
  split at h
  · rename_i h0
    cases h
    refine ⟨rfl, rfl, rfl, rfl, ?_⟩
    have h5 : inK s ≤ 5 := by unfold inK; repeat' split
                              all_goals omega
    simp [fldP, mostZ, plc0, wthn, h0, h5]
  · split at h
    · rename_i h0 hc
      cases h
      refine ⟨rfl, rfl, rfl, rfl, ?_⟩
      have : pos nm s < nm.length := by
        unfold pos
        rw [List.findIdx_lt_length]
        exact ⟨s, by simpa using hc, by simp⟩
      simp [fldP, mostZ, plc0, wthn]
      omega
    · cases h

theorem g_gd {nm : List Txt} {c : Nat} {l : List Tk} {e : E} (h : G nm c l e) : l.all okT = true → Gd nm.length e := by
  induction h with
  | up _ _ ih => exact ih
  | sel _ _ _ ih1 ih2 ih3 =>
    intro h
    simp only [List.all_append, List.all_cons, Bool.and_eq_true] at h
    exact ⟨rfl, ih1 h.1, ih2 h.2.2.1, ih3 h.2.2.2.2⟩
  | bin _ _ _ ih1 ih2 =>
    intro h
    simp only [List.all_append, List.all_cons, Bool.and_eq_true, okT, beq_iff_eq] at h
    exact ⟨h.2.1, ih1 h.1, ih2 h.2.2⟩
  | neg _ ih =>
    intro h
    simp only [List.all_cons, Bool.and_eq_true] at h
    exact ⟨rfl, ih h.2⟩
  | par _ ih =>
    intro h
    simp only [List.all_append, List.all_cons, Bool.and_eq_true] at h
    exact ih h.2.1
  | num v =>
    intro h
    simp only [List.all_cons, okT, Bool.and_eq_true, decide_eq_true_eq] at h
    refine ⟨rfl, rfl, rfl, rfl, ?_⟩
    simp [fldP, mostZ, plc0, wthn, MX]
    omega
  | word _ _ _ hw => intro _; exact wd_ok hw
  | place _ hp => intro h; simp only [List.all_cons, Bool.and_eq_true] at h; exact plc_ok hp h.2
  | call1 ha _ ih =>
    intro h
    simp only [List.all_append, List.all_cons, Bool.and_eq_true] at h
    exact ⟨by rw [calO_pr (by omega), ha]; rfl, ih h.2.2.1⟩
  | call2 ha _ _ ih1 ih2 =>
    intro h
    simp only [List.all_append, List.all_cons, Bool.and_eq_true] at h
    exact ⟨by rw [calO_pr (by omega), ha]; rfl, ih1 h.2.2.1, ih2 h.2.2.2.2.1⟩
  | call3 ha _ _ _ ih1 ih2 ih3 =>
    intro h
    simp only [List.all_append, List.all_cons, Bool.and_eq_true] at h
    exact ⟨by rw [calO_pr (by omega), ha]; rfl, ih1 h.2.2.1, ih2 h.2.2.2.2.1, ih3 h.2.2.2.2.2.2.1⟩

/- the row of nodes that are no parts yet -/
def lastP (BS : List Int) (i : Nat) (L : List Int) (bd : Nat) : Option (List Int × Nat) :=
  if bd < BS.length ∧ BS.getD bd 0 = i then (if L.length = 0 then some ([], bd + 1) else none) else some (L ++ [(i : Int)], bd)
theorem step_last {BS : List Int} {i : Nat} {n : Nd} {L B : List Int} {bd : Nat} (h1 : prZ n.op = B.length) (h2 : fldP n bd = true) (h3 : tkE B n = true) : stepP BS i n (L ++ B, bd) = lastP BS i L bd := by
  rw [step_in h1, h2, h3]
  rfl
theorem mach_one (BS : List Int) (i : Nat) (n : Nd) (s : List Int × Nat) : mach BS i [n] s = stepP BS i n s := by
  show (stepP BS i n s).bind _ = _
  cases stepP BS i n s <;> rfl
theorem last_no {BS : List Int} {i : Nat} {L : List Int} {bd : Nat} (h : ¬ (bd < BS.length ∧ BS.getD bd 0 = (i : Int))) : lastP BS i L bd = some (L ++ [(i : Int)], bd) := if_neg h

theorem mach_e {BS : List Int} {bd : Nat} : ∀ (e : E) (s : Nat) (L : List Int), Gd bd e → (∀ i, s ≤ i → i + 1 < s + e.size → ¬ (bd < BS.length ∧ BS.getD bd 0 = (i : Int))) → mach BS s (e.flat s) (L, bd) = lastP BS (s + e.size - 1) L bd
  | .leaf n, s, L, hg, hno => by
    obtain ⟨h1, h2, h3, h4, h5⟩ := hg
    show mach BS s [n] (L, bd) = _
    rw [mach_one]
    have := step_last (BS := BS) (i := s) (L := L) (B := []) (n := n) (bd := bd) (by rw [h4]; rfl) h5 (by simp [tkE, h1, h2, h3])
    rw [List.append_nil] at this
    exact this
  | .un o a, s, L, hg, hno => by
    obtain ⟨h1, ha⟩ := hg
    have pa := a.size_pos
    simp only [E.size] at hno
    simp only [E.flat]
    rw [mach_app, mach_e a s L ha (fun i h1 h2 => hno i h1 (by omega)), last_no (hno _ (by omega) (by omega))]
    show mach BS _ [_] _ = _
    rw [mach_one, E.flat_len, step_last (by rw [h1]; rfl) (fld_in (by omega) _ _ _ _) (by simp [tkE]; omega)]
    simp only [E.size]
    rw [show s + (a.size + 1) - 1 = s + a.size by omega]
  | .bin o a b, s, L, hg, hno => by
    obtain ⟨h1, ha, hb⟩ := hg
    have pa := a.size_pos
    have pb := b.size_pos
    simp only [E.size] at hno
    simp only [E.flat]
    rw [mach_app, mach_app, mach_e a s L ha (fun i h1 h2 => hno i h1 (by omega)), last_no (hno _ (by omega) (by omega)), Option.bind_some, E.flat_len, mach_e b (s + a.size) _ hb (fun i h1 h2 => hno i (by omega) (by omega)), last_no (hno _ (by omega) (by omega)), Option.bind_some, mach_one, List.append_assoc, step_last (by rw [h1]; rfl) (fld_in (by omega) _ _ _ _) (by simp [tkE]; omega)]
    simp only [E.size, List.length_append, E.flat_len]
    rw [show s + (a.size + b.size + 1) - 1 = s + (a.size + b.size) by omega]
  | .tri o a b c, s, L, hg, hno => by
    obtain ⟨h1, ha, hb, hc⟩ := hg
    have pa := a.size_pos
    have pb := b.size_pos
    have pc := c.size_pos
    simp only [E.size] at hno
    simp only [E.flat]
    rw [mach_app, mach_app, mach_app, mach_e a s L ha (fun i h1 h2 => hno i h1 (by omega)), last_no (hno _ (by omega) (by omega)), Option.bind_some, E.flat_len, mach_e b (s + a.size) _ hb (fun i h1 h2 => hno i (by omega) (by omega)), last_no (hno _ (by omega) (by omega)), Option.bind_some, List.length_append, E.flat_len, E.flat_len, ← Nat.add_assoc, mach_e c (s + a.size + b.size) _ hc (fun i h1 h2 => hno i (by omega) (by omega)), last_no (hno _ (by omega) (by omega)), Option.bind_some, mach_one, show ∀ x y z : Int, L ++ [x] ++ [y] ++ [z] = L ++ [x, y, z] from by intros; simp, step_last (by rw [h1]; rfl) (fld_in (by omega) _ _ _ _) (by simp [tkE]; omega)]
    simp only [E.size, List.length_append, E.flat_len]
    rw [show s + (a.size + b.size + c.size + 1) - 1 = s + (a.size + b.size + c.size) by omega]

theorem mach_L {BS : List Int} : ∀ (es : List E) (ex : E) (s bd : Nat), bd ≤ BS.length → BS.drop bd = bdL es s → (∀ j e, es[j]? = some e → Gd (bd + j) e) → Gd (bd + es.length) ex → mach BS s (flL es s ++ ex.flat (s + szL es)) ([], bd) = some ([((s + szL es + ex.size - 1 : Nat) : Int)], BS.length)
  | [], ex, s, bd, hle, hd, hes, hex => by
    have hl : bd = BS.length := by
      have := congrArg List.length hd
      simp [bdL] at this
      omega
    simp only [flL, szL, List.nil_append, Nat.add_zero]
    rw [mach_e (bd := bd) ex s [] hex (fun i _ _ h => by omega), last_no (fun h => by omega), hl]
    rfl
  | a :: es, ex, s, bd, hle, hd, hes, hex => by
    have hlt : bd < BS.length := by
      have := congrArg List.length hd
      simp [bdL] at this
      omega
    have pa := a.size_pos
    have hg : BS.getD bd 0 = ((s + a.size : Nat) : Int) - 1 := by
      have := congrArg (fun l => l.getD 0 0) hd
      simp only [bdL, List.getD_cons_zero] at this
      rw [← this, List.getD_eq_getElem?_getD, List.getD_eq_getElem?_getD, List.getElem?_drop, Nat.add_zero]
    simp only [flL, szL]
    rw [List.append_assoc, mach_app, mach_e (bd := bd) a s [] (hes 0 a rfl) (fun i h1 h2 h => by have := h.2; rw [hg] at this; omega)]
    rw [show lastP BS (s + a.size - 1) [] bd = some ([], bd + 1) by unfold lastP; rw [if_pos ⟨hlt, by rw [hg]; omega⟩]; rfl]
    rw [Option.bind_some, E.flat_len, ← Nat.add_assoc]
    refine mach_L es ex (s + a.size) (bd + 1) hlt ?_ ?_ ?_
    · rw [← List.drop_drop, hd]; rfl
    · intro j e he
      have := hes (j + 1) e he
      rwa [show bd + (j + 1) = bd + 1 + j by omega] at this
    · rw [List.length_cons] at hex
      rwa [show bd + (es.length + 1) = bd + 1 + es.length by omega] at hex

theorem gp_gd {nm : List Txt} {es : List E} {l : List Tk} {o : Out} (h : GP nm es l o) : l.all okT = true → nm.length = es.length → (∀ j e, es[j]? = some e → Gd j e) → nmB nm = true → (∀ j e, o.2.1[j]? = some e → Gd j e) ∧ Gd o.2.1.length o.2.2 ∧ nmB o.1 = true := by
  induction h with
  | last hg => intro h1 h2 h3 h4; exact ⟨h3, h2 ▸ g_gd hg h1, h4⟩
  | @bind nm es s l1 l2 e o hr hc hg _ ih =>
    intro h1 h2 h3 h4
    simp only [List.all_append, List.all_cons, Bool.and_eq_true] at h1
    have hw : wrd s = true := h1.2.1
    refine ih h1.2.2.2.2.2 (by simp [h2]) ?_ (by rw [nmB_snoc, h4, hw, hr, hc]; rfl)
    intro j e' he
    by_cases hj : j < es.length
    · rw [List.getElem?_append_left hj] at he; exact h3 j e' he
    · rw [List.getElem?_append_right (by omega)] at he
      have hj0 : j - es.length = 0 := by
        cases hh : j - es.length with
        | zero => rfl
        | succ m => rw [hh] at he; simp at he
      rw [hj0] at he
      cases he
      have : j = nm.length := by omega
      rw [this]
      exact g_gd hg h1.2.2.2.1

/-- The tree of a text's program is taken. -/
theorem chk_ok {l : List UInt8} {T : List Tok} {NM : List Txt} {es : List E} {ex : E} (hT : tks l = some T) (hA : Ans (T.map ab) (some (NM, es, ex))) (hl : NM.length = es.length) (hz : szL es + ex.size ≤ T.length) :
    chkP NM (bdL es 0) (flL es 0 ++ ex.flat (szL es)) (((szL es + ex.size : Nat) : Int) - 1) = true := by
  have hg := (hA (NM, es, ex)).1 rfl
  have hok : (T.map ab).all okT = true := by
    rw [List.all_map, List.all_eq_true]
    intro t ht
    exact okT_ab (tks_wf hT t ht)
  obtain ⟨h1, h2, h3⟩ := gp_gd hg hok rfl (by intro j e h; simp at h) rfl
  have hbl : (bdL es 0).length = es.length := by
    have : ∀ (es : List E) (s : Nat), (bdL es s).length = es.length := by
      intro es
      induction es with
      | nil => intro s; rfl
      | cons a es ih => intro s; simp [bdL, ih]
    exact this es 0
  have hfl : (flL es 0).length = szL es := by
    have : ∀ (es : List E) (s : Nat), (flL es s).length = szL es := by
      intro es
      induction es with
      | nil => intro s; rfl
      | cons a es ih => intro s; simp [flL, szL, ih, E.flat_len]
    exact this es 0
  have hm := mach_L (BS := bdL es 0) es ex 0 0 (Nat.zero_le _) rfl (by intro j e h; rw [Nat.zero_add]; exact h1 j e h) (by rw [Nat.zero_add]; exact h2)
  rw [Nat.zero_add] at hm
  have h4 := tks_len hT
  have px := ex.size_pos
  unfold chkP ordP endsP
  rw [hm, h3, hbl, hl]
  simp [hfl, E.flat_len, wthn]
  omega

end Go.Proofs.YtlhbgkaknfhlnaaGreat

/-
  What inOrder takes: rows of expressions. Plain lists.
-/
namespace Go.Proofs.YtlhbgkaknfhlnaaGreat
open Lx Pz
set_option linter.unusedVariables false

/-- The nodes and the binds of expressions, one for each bind and one more. -/
def Good (BS : List Int) (NS : List Nd) : Prop := ∃ es ex, NS = flL es 0 ++ ex.flat (szL es) ∧ BS = bdL es 0 ∧ (∀ j e, es[j]? = some e → Gd j e) ∧ Gd es.length ex

theorem flL_app : ∀ (A B : List E) (s : Nat), flL (A ++ B) s = flL A s ++ flL B (s + szL A)
  | [], B, s => by simp [flL, szL]
  | a :: A, B, s => by simp only [List.cons_append, flL, szL, flL_app A B, List.append_assoc, Nat.add_assoc]
theorem szL_app : ∀ (A B : List E), szL (A ++ B) = szL A + szL B
  | [], B => by simp [szL]
  | a :: A, B => by simp only [List.cons_append, szL, szL_app A B]; omega
theorem bdL_app : ∀ (A B : List E) (s : Nat), bdL (A ++ B) s = bdL A s ++ bdL B (s + szL A)
  | [], B, s => by simp [bdL, szL]
  | a :: A, B, s => by simp only [List.cons_append, bdL, szL, bdL_app A B, Nat.add_assoc]
theorem bdL_len : ∀ (es : List E) (s : Nat), (bdL es s).length = es.length
  | [], s => rfl
  | a :: es, s => by simp [bdL, bdL_len es]
theorem flL_len : ∀ (es : List E) (s : Nat), (flL es s).length = szL es
  | [], s => rfl
  | a :: es, s => by simp [flL, szL, flL_len es, E.flat_len]

/-- A step that is taken: the parts are at the row's end. -/
theorem step_some {BS : List Int} {i : Nat} {n : Nd} {L : List Int} {bd : Nat} {t : List Int × Nat} (h : stepP BS i n (L, bd) = some t) :
    ∃ A B, L = A ++ B ∧ prZ n.op = B.length ∧ B.length ≤ 3 ∧ fldP n bd = true ∧ tkE B n = true ∧ lastP BS i A bd = some t := by
  cases hw : wthn (prZ n.op) 0 L.length with
  | false => rw [step_out hw] at h; cases h
  | true =>
    obtain ⟨A, B, rfl, hp, h3⟩ := step_parts hw
    rw [step_in hp] at h
    split at h
    · rename_i hc
      simp only [Bool.and_eq_true] at hc
      exact ⟨A, B, rfl, hp, h3, hc.1, hc.2, h⟩
    · cases h

/-- What stands on the row behind some nodes. -/
def Inv (BS : List Int) (P : List Nd) (L : List Int) (bd : Nat) : Prop :=
  ∃ es st, P = flL es 0 ++ flL st (szL es) ∧ L = bdL st (szL es) ∧ es.length = bd ∧ bdL es 0 = BS.take bd ∧ bd ≤ BS.length ∧ (∀ j e, es[j]? = some e → Gd j e) ∧ (∀ e ∈ st, Gd bd e)

theorem bdL_split {st : List E} {s : Nat} {A B : List Int} (h : bdL st s = A ++ B) : ∃ s1 s2, st = s1 ++ s2 ∧ bdL s1 s = A ∧ bdL s2 (s + szL s1) = B := by
  have hl : A.length ≤ st.length := by rw [← bdL_len st s, h, List.length_append]; omega
  refine ⟨st.take A.length, st.drop A.length, (List.take_append_drop _ _).symm, ?_⟩
  have e := bdL_app (st.take A.length) (st.drop A.length) s
  rw [List.take_append_drop, h] at e
  have h2 := List.append_inj e (by rw [bdL_len, List.length_take]; omega)
  exact ⟨h2.1.symm, h2.2.symm⟩

/-- An expression of these parts. -/
theorem mk_expr {st : List E} {s bd : Nat} {n : Nd} (hp : prZ n.op = st.length) (h3 : st.length ≤ 3) (hf : fldP n bd = true) (ht : tkE (bdL st s) n = true) (hg : ∀ e ∈ st, Gd bd e) : ∃ e : E, e.flat s = flL st s ++ [n] ∧ e.size = szL st + 1 ∧ Gd bd e := by
  have hz : n.op ≠ 3 → prZ n.op ≠ 0 → n.k = 0 ∧ n.back = 0 ∧ n.co = 0 ∧ n.x = 0 ∧ n.y = 0 := by
    intro ho hpz
    have h1 : n.op ≠ 1 := by intro e; rw [e] at hpz; exact hpz rfl
    have h2 : n.op ≠ 2 := by intro e; rw [e] at hpz; exact hpz rfl
    have h4 : n.op ≠ 4 := by intro e; rw [e] at hpz; exact hpz rfl
    simp [fldP, ho, mostZ, h1, h2, h4, plc0, wthn] at hf
    omega
  have h30 : prZ n.op ≠ 0 → n.op ≠ 3 := by intro h e; rw [e] at h; exact h rfl
  simp only [tkE, Bool.and_eq_true, beq_iff_eq] at ht
  match st, h3, hp, ht, hg with
  | [], _, hp, ht, hg =>
    refine ⟨.leaf n, by simp [E.flat, flL], rfl, ?_⟩
    exact ⟨by simpa [bdL] using ht.1.symm, by simpa [bdL] using ht.2.1.symm, by simpa [bdL] using ht.2.2.symm, hp, hf⟩
  | [a], _, hp, ht, hg =>
    have hp1 : prZ n.op = 1 := hp
    obtain ⟨z1, z2, z3, z4, z5⟩ := hz (h30 (by omega)) (by omega)
    refine ⟨.un n.op a, ?_, by simp [E.size, szL], hp1, hg a (by simp)⟩
    obtain ⟨op, x1, x2, x3, k, back, co, x, y⟩ := n
    simp [bdL] at ht
    simp only at z1 z2 z3 z4 z5
    obtain ⟨t1, t2, t3⟩ := ht
    subst z1 z2 z3 z4 z5 t2 t3
    simp [E.flat, flL, ← t1]
  | [a, b], _, hp, ht, hg =>
    have hp1 : prZ n.op = 2 := hp
    obtain ⟨z1, z2, z3, z4, z5⟩ := hz (h30 (by omega)) (by omega)
    refine ⟨.bin n.op a b, ?_, by simp [E.size, szL], hp1, hg a (by simp), hg b (by simp)⟩
    obtain ⟨op, x1, x2, x3, k, back, co, x, y⟩ := n
    simp [bdL] at ht
    simp only at z1 z2 z3 z4 z5
    obtain ⟨t1, t2, t3⟩ := ht
    subst z1 z2 z3 z4 z5 t3
    simp [E.flat, flL, ← t1, ← t2]
  | [a, b, c], _, hp, ht, hg =>
    have hp1 : prZ n.op = 3 := hp
    obtain ⟨z1, z2, z3, z4, z5⟩ := hz (h30 (by omega)) (by omega)
    refine ⟨.tri n.op a b c, ?_, by simp [E.size, szL]; omega, hp1, hg a (by simp), hg b (by simp), hg c (by simp)⟩
    obtain ⟨op, x1, x2, x3, k, back, co, x, y⟩ := n
    simp [bdL] at ht
    simp only at z1 z2 z3 z4 z5
    obtain ⟨t1, t2, t3⟩ := ht
    subst z1 z2 z3 z4 z5
    simp [E.flat, flL, ← t1, ← t2, ← t3]

theorem inv_step {BS : List Int} {P : List Nd} {L : List Int} {bd : Nat} {n : Nd} {t : List Int × Nat} (hI : Inv BS P L bd) (h : stepP BS P.length n (L, bd) = some t) : Inv BS (P ++ [n]) t.1 t.2 := by
  obtain ⟨es, st, hP, hL, hes, hbs, hle, hg1, hg2⟩ := hI
  obtain ⟨A, B, hAB, hp, h3, hf, ht, hl⟩ := step_some h
  rw [hL] at hAB
  obtain ⟨s1, s2, rfl, hA, hB⟩ := bdL_split hAB
  have hBl : B.length = s2.length := by rw [← hB, bdL_len]
  obtain ⟨e, he1, he2, he3⟩ := mk_expr (st := s2) (s := szL es + szL s1) (bd := bd) (n := n) (by rw [hp, hBl]) (by omega) hf (by rw [hB]; exact ht) (fun e he => hg2 e (by simp [he]))
  have hPl : P.length = szL es + szL s1 + szL s2 := by rw [hP, List.length_append, flL_len, flL_len, szL_app]; omega
  have hP2 : P ++ [n] = flL es 0 ++ flL (s1 ++ [e]) (szL es) := by
    rw [hP, flL_app, flL_app]
    simp only [flL, List.append_nil, he1, List.append_assoc]
  have hi : ((P.length : Nat) : Int) = ((szL es + szL s1 + e.size : Nat) : Int) - 1 := by rw [hPl, he2]; omega
  unfold lastP at hl
  split at hl
  · rename_i hc
    split at hl
    · rename_i hA0
      cases hl
      have hs1 : s1 = [] := List.length_eq_zero_iff.1 (by rw [← bdL_len s1 (szL es), hA]; exact hA0)
      subst hs1
      refine ⟨es ++ [e], [], ?_, rfl, by simp [hes], ?_, hc.1, ?_, by simp⟩
      · rw [hP2]
        simp [flL_app, flL]
      · rw [bdL_app, hbs, List.take_succ_eq_append_getElem hc.1]
        have hg : BS[bd] = BS.getD bd 0 := by rw [List.getD_eq_getElem?_getD, List.getElem?_eq_getElem hc.1]; rfl
        rw [hg, hc.2, hi]
        simp [bdL, szL]
      · intro j e' hj
        by_cases hjl : j < es.length
        · rw [List.getElem?_append_left hjl] at hj; exact hg1 j e' hj
        · rw [List.getElem?_append_right (by omega)] at hj
          have hj0 : j - es.length = 0 := by
            cases hh : j - es.length with
            | zero => rfl
            | succ m => rw [hh] at hj; simp at hj
          rw [hj0] at hj
          cases hj
          rw [show j = bd by omega]
          exact he3
    · cases hl
  · cases hl
    refine ⟨es, s1 ++ [e], hP2, ?_, hes, hbs, hle, hg1, ?_⟩
    · rw [bdL_app, hA, hi]
      rfl
    · intro e' he'
      rcases List.mem_append.1 he' with h | h
      · exact hg2 e' (by simp [h])
      · simp at h; subst h; exact he3

theorem inv_all {BS : List Int} : ∀ (N P : List Nd) (L : List Int) (bd : Nat) (t : List Int × Nat), Inv BS P L bd → mach BS P.length N (L, bd) = some t → Inv BS (P ++ N) t.1 t.2
  | [], P, L, bd, t, hI, h => by cases h; rw [List.append_nil]; exact hI
  | n :: N, P, L, bd, t, hI, h => by
    simp only [mach] at h
    cases hs : stepP BS P.length n (L, bd) with
    | none => rw [hs] at h; cases h
    | some u =>
      rw [hs] at h
      have h1 := inv_step hI hs
      have := inv_all N (P ++ [n]) u.1 u.2 t h1 (by rw [List.length_append]; exact h)
      rw [List.append_assoc] at this
      exact this

theorem ord_good {BS : List Int} {NS : List Nd} : ordP BS NS = true ↔ Good BS NS := by
  constructor
  · intro h
    unfold ordP at h
    split at h
    · rename_i t ht
      simp only [Bool.and_eq_true, beq_iff_eq] at h
      have hI := inv_all NS [] [] 0 t ⟨[], [], rfl, rfl, rfl, rfl, Nat.zero_le _, by intro j e h; simp at h, by simp⟩ ht
      obtain ⟨es, st, hP, hL, hes, hbs, hle, hg1, hg2⟩ := hI
      have hst : st.length = 1 := by rw [← bdL_len st (szL es), ← hL]; exact h.2
      match st, hst with
      | [ex], _ =>
        refine ⟨es, ex, by simpa [flL] using hP, ?_, hg1, ?_⟩
        · rw [hbs, List.take_of_length_le (by omega)]
        · rw [hes]; exact hg2 ex (by simp)
    · cases h
  · rintro ⟨es, ex, rfl, rfl, h1, h2⟩
    have hm := mach_L (BS := bdL es 0) es ex 0 0 (Nat.zero_le _) rfl (by intro j e h; rw [Nat.zero_add]; exact h1 j e h) (by rw [Nat.zero_add]; exact h2)
    rw [Nat.zero_add] at hm
    unfold ordP
    rw [hm]
    simp

end Go.Proofs.YtlhbgkaknfhlnaaGreat
