/-
  Passes, plainly (ahead of the code): whatever passes are done, in whatever order, the meaning stays.
-/
import Derived.Test.YtijbmdmeiancgaaGreatMQA
import Derived.Test.YtijbmdmeiancgaaGreatMG0
import Derived.Test.YtijbmdmeiancgaaGreatMWA
import Derived.Test.YtijbmdmeiancgaaGreatMFC
import Derived.Test.YtijbmdmeiancgaaGreatMGB
import Derived.Test.YtijbmdmeiancgaaGreatMUC
import Derived.Test.YtijbmdmeiancgaaGreatMPd
namespace Go.Proofs.Pss
open Go.RowKit Go.IntWalk YtijbmdmeiancgaaGreat.Knd
open YtijbmdmeiancgaaGreat (Wd wdA Fits inpV)
open Cde (In i0 agL okI okT mcB coL coZ vaZ)
open Vfy (vfE vf_parts)
set_option linter.unusedVariables false

abbrev Cd := List In × Int
/-- One pass, by its number; several, one behind the other. -/
def ps1 (f d : Int) (c : Cd) (p : Int) : Cd :=
  if p = 1 then (Fld.fdL f d c.1 c.2, Fld.fdO f d c.1 c.2) else if p = 2 then (Shr.sdL f d c.1 c.2, Shr.sdO f d c.1 c.2)
  else if p = 3 then (Rdc.rxL f d c.1 c.2, Rdc.rxO f d c.1 c.2) else (Prn.prN c.1 c.2, Prn.prO c.1 c.2)
def psF (f d : Int) (P : List Int) (c : Cd) : Cd := P.foldl (ps1 f d) c
theorem psF_app (f d : Int) (P Q : List Int) (c : Cd) : psF f d (P ++ Q) c = psF f d Q (psF f d P c) := by simp [psF]
theorem psF_snoc (f d : Int) (P : List Int) (p : Int) (c : Cd) : psF f d (P ++ [p]) c = ps1 f d (psF f d P c) p := by simp [psF]
theorem psF_nil (f d : Int) (c : Cd) : psF f d [] c = c := rfl
/-- What a pass keeps. -/
structure Kp (f d : Int) (a b : Cd) : Prop where
  tk : vfE f d b.1 b.2 = 0
  co : coL b.1 ≤ coL a.1
  vl : ∀ v, Fits f d v → ∃ V U, vaZ f d v a.1 a.2 = (0, V) ∧ vaZ f d v b.1 b.2 = (0, U) ∧ V.length = a.1.length ∧ U.length = b.1.length ∧ U.getD b.2.toNat 0 = V.getD a.2.toNat 0
theorem Kp.refl {f d : Int} {a : Cd} (h : vfE f d a.1 a.2 = 0) : Kp f d a a :=
  ⟨h, Int.le_refl _, fun v hF => by
    obtain ⟨V, hV, hl, -⟩ := Rdc.od_of h hF
    exact ⟨V, V, hV, hV, hl, hl, rfl⟩⟩
theorem Kp.trans {f d : Int} {a b c : Cd} (h : Kp f d a b) (g : Kp f d b c) : Kp f d a c :=
  ⟨g.tk, Int.le_trans g.co h.co, fun v hF => by
    obtain ⟨V, U, v1, v2, v3, v4, v5⟩ := h.vl v hF
    obtain ⟨U', X, w1, w2, w3, w4, w5⟩ := g.vl v hF
    have e : U' = U := by rw [v2] at w1; exact (congrArg Prod.snd w1).symm
    subst e
    exact ⟨V, X, v1, w2, v3, w4, w5.trans v5⟩⟩
theorem ps1_keeps {f d : Int} {c : Cd} (h : vfE f d c.1 c.2 = 0) (p : Int) : Kp f d c (ps1 f d c p) := by
  unfold ps1
  by_cases h1 : p = 1
  · rw [if_pos h1]
    obtain ⟨a, b, e, g⟩ := Fld.fd_means h
    refine ⟨a, e, fun v hF => ?_⟩
    obtain ⟨V, v1, v2, v3, -, -, v6⟩ := g v hF
    exact ⟨V, V, v1, v2, v3, v3.trans b.symm, v6⟩
  rw [if_neg h1]
  by_cases h2 : p = 2
  · rw [if_pos h2]
    obtain ⟨a, b, e, g⟩ := Shr.sd_means h
    refine ⟨a, Int.le_of_eq e, fun v hF => ?_⟩
    obtain ⟨V, v1, v2, v3, -, -, v6⟩ := g v hF
    exact ⟨V, V, v1, v2, v3, v3.trans b.symm, v6⟩
  rw [if_neg h2]
  by_cases h3 : p = 3
  · rw [if_pos h3]
    obtain ⟨a, b, e, g⟩ := Rdc.rx_means h
    refine ⟨a, e, fun v hF => ?_⟩
    obtain ⟨V, U, v1, v2, v3, v4, -, -, v6⟩ := g v hF
    exact ⟨V, U, v1, v2, v3, v4, v6⟩
  rw [if_neg h3]
  refine ⟨Prn.pr_taken h, Prn.prN_cost _ _, fun v hF => ?_⟩
  obtain ⟨V, U, v1, v2, v3, v4, -, -, v6⟩ := Prn.pr_means h hF
  exact ⟨V, U, v1, v2, v3, v4, v6⟩
theorem psF_keeps {f d : Int} : ∀ (P : List Int) (c : Cd), vfE f d c.1 c.2 = 0 → Kp f d c (psF f d P c)
  | [], c, h => .refl h
  | p :: P, c, h => by
    have h1 := ps1_keeps h p
    exact h1.trans (psF_keeps P (ps1 f d c p) h1.tk)
/-- Each instruction of a code that may be costs something. -/
theorem co_one {n : In} {i : Nat} (h : okI n i = true) : 1 ≤ coZ n.op := by
  have ha : 0 ≤ Fld.ar n.op := by
    simp only [okI, Bool.and_eq_true, decide_eq_true_eq] at h
    exact h.1.1
  have h4 : n.op ≠ 4 := fun e => by rw [e] at ha; revert ha; decide
  unfold coZ
  rw [if_neg h4]
  split
  · omega
  · split <;> omega
theorem co_len {L : List In} (h : okT L L.length = true) : ∀ k, k ≤ L.length → (k : Int) ≤ coL (L.take k)
  | 0, _ => by simp [coL]
  | k + 1, hk => by
    have ih := co_len h k (by omega)
    have := co_one (Cde.okT_at h (show k < L.length by omega))
    rw [Cde.take_snoc i0 (by omega), Cde.coL_snoc]
    omega
theorem co_few {f d : Int} {L : List In} {out : Int} (h : mcB f d L out = true) : (L.length : Int) ≤ coL L := by
  obtain ⟨-, -, -, -, -, ho⟩ := Cde.mc_parts h
  have := co_len ho L.length (Nat.le_refl _)
  rwa [List.take_length] at this

end Go.Proofs.Pss

/-
  What Run answers, plainly; one pass by its number, in memory.
-/
namespace Go.Proofs.Pss
open Go.RowKit Go.IntWalk YtijbmdmeiancgaaGreat.Knd
open Cde (In i0 ia kd cd Ins is6)
open Vfy (vfE)
set_option linter.unusedVariables false

def rnE (f d : Int) (L : List In) (out : Int) (P : List Int) : Int := if okP P = true then vfE f d L out else 1
def rnI (f d : Int) (L : List In) (out : Int) (P : List Int) : List In := if rnE f d L out P = 0 then (psF f d P (L, out)).1 else []
def rnU (f d : Int) (L : List In) (out : Int) (P : List Int) : Int := if rnE f d L out P = 0 then (psF f d P (L, out)).2 else 0
def rnK (f d : Int) (L : List In) (out : Int) (P : List Int) (x : Int) : Int := if rnE f d L out P = 0 then x else 0
/-- What Run answers in memory. -/
def RnP (w : World) (f d : Int) (L : List In) (out : Int) (P : List Int) (e : Ending) (W' : World) : Prop :=
  ∃ a c, e = .returned (.tuple #[.agg (cd (rnK f d L out P f) (rnK f d L out P d) a (rnI f d L out P).length c (rnU f d L out P)), .int .i64 (rnE f d L out P)]) ∧ W'.ownsRow w.heap.size 57 6 (.slice a (rnI f d L out P).length c) (rnI f d L out P).length (is6 (rnI f d L out P)) ∧ Below w.heap.size w W'
theorem RnP.no {w W' : World} {f d : Int} {L : List In} {out : Int} {P : List Int} {er : Int} (h : rnE f d L out P = er) (h0 : er ≠ 0) (hb : Below w.heap.size w W') : RnP w f d L out P (.returned (.tuple #[.agg Rdc.cdz, .int .i64 er])) W' := by
  subst h
  refine ⟨none, 0, ?_, ?_, hb⟩
  · simp [rnK, rnI, rnU, h0]
  · rw [rnI, if_neg h0]; exact ⟨rfl, .inl ⟨rfl, rfl⟩⟩
theorem RnP.row {w W' : World} {f d : Int} {L I : List In} {out u : Int} {P : List Int} {a : Option Addr} {n c : Nat} (h : rnE f d L out P = 0) (hI : psF f d P (L, out) = (I, u)) (hn : I.length = n) (hO : W'.ownsRow w.heap.size 57 6 (.slice a n c) n (is6 I)) (hb : Below w.heap.size w W') : RnP w f d L out P (.returned (.tuple #[.agg (cd f d a n c u), .int .i64 0])) W' := by
  subst hn
  refine ⟨a, c, ?_, ?_, hb⟩
  · simp [rnK, rnI, rnU, h, hI]
  · rw [rnI, if_pos h, hI]; exact hO
theorem pass_any (p f d out : Int) {a : Option Addr} {n cap : Nat} {L : List In} {W : World} (hL : Ins W a n cap L) (h : vfE f d L out = 0) {I : List In} {u : Int} (hI : ps1 f d (L, out) p = (I, u)) {m : Nat} (hm : I.length = m) :
    Calls Tryz.prog (fnP p) #[.agg (cd f d a n cap out)] W fun e W' => ∃ a' c', e = .returned (.tuple #[.agg (cd f d a' m c' u), .int .i64 0]) ∧ W'.ownsRow W.heap.size 57 6 (.slice a' m c') m (is6 I) ∧ Below W.heap.size W W' := by
  subst hm
  have h1 := congrArg Prod.fst hI
  have h2 := congrArg Prod.snd hI
  dsimp only at h1 h2
  subst h1 h2
  unfold fnP ps1
  by_cases e1 : p = 1
  · simp only [if_pos e1]
    refine (Fld.ffold_any f d out hL).mono ?_
    rintro e W' ⟨a', c', rfl, hO, hb⟩
    have e1 : Fld.foI f d L out = Fld.fdL f d L out := by rw [Fld.foI, if_pos h]
    rw [e1] at hO
    exact ⟨a', c', by rw [e1]; simp [Fld.foK, Fld.foU, h], hO, hb⟩
  simp only [if_neg e1]
  by_cases e2 : p = 2
  · simp only [if_pos e2]
    refine (Shr.gshare_any f d out hL).mono ?_
    rintro e W' ⟨a', c', rfl, hO, hb⟩
    have e1 : Shr.foI f d L out = Shr.sdL f d L out := by rw [Shr.foI, if_pos h]
    rw [e1] at hO
    exact ⟨a', c', by rw [e1]; simp [Shr.foK, Shr.foU, h], hO, hb⟩
  simp only [if_neg e2]
  by_cases e3 : p = 3
  · simp only [if_pos e3]
    refine (Rdc.ureduce_any f d out hL).mono ?_
    rintro e W' ⟨a', c', rfl, hO, hb⟩
    have e1 : Rdc.foI f d L out = Rdc.rxL f d L out := by rw [Rdc.foI, if_pos h]
    rw [e1] at hO
    exact ⟨a', c', by rw [e1]; simp [Rdc.foK, Rdc.foU, h], hO, hb⟩
  simp only [if_neg e3]
  refine (Prn.pprune_any f d out hL).mono ?_
  rintro e W' ⟨a', c', rfl, hO, hb⟩
  have e1 : Prn.foI f d L out = Prn.prN L out := by rw [Prn.foI, if_pos h]
  rw [e1] at hO
  exact ⟨a', c', by rw [e1]; simp [Prn.foK, Prn.foU, h], hO, hb⟩

end Go.Proofs.Pss

/-
  passes.Run, passes.Best.
-/
namespace Go.Proofs.Pss
open Go.RowKit Go.IntWalk YtijbmdmeiancgaaGreat.Knd
open Cde (In i0 ia kd cd Ins is6 two_of four_of has_new1)
open Rdc (mixedF own_ne cdz s4 four_fr s4_own)
open Prn (Fg put4)
open Vfy (vfE vfN vfC vfS)
set_option linter.unusedVariables false

theorem fnP_four (p : Int) : fnP p = 74 ∨ fnP p = 75 ∨ fnP p = 76 ∨ fnP p = 77 := by
  unfold fnP
  split
  · exact .inl rfl
  · split
    · exact .inr (.inl rfl)
    · split
      · exact .inr (.inr (.inl rfl))
      · exact .inr (.inr (.inr rfl))
/-- A row's pass. -/
theorem ps2_at {P : List Int} {k : Nat} (hk : k < P.length) : (ps2 P)[k * 2]? = some (.int .i64 (P.getD k 0)) ∧ (ps2 P)[k * 2 + 1]? = some (fnV (P.getD k 0)) := by
  induction P generalizing k with
  | nil => simp at hk
  | cons p P ih =>
    cases k with
    | zero => exact ⟨rfl, rfl⟩
    | succ k =>
      have h := ih (k := k) (by simpa using hk)
      have e : ps2 (p :: P) = .int .i64 p :: fnV p :: ps2 P := rfl
      rw [e, show (k + 1) * 2 = k * 2 + 1 + 1 by omega]
      simpa using h
theorem row_at {V : World} {base n rc : Nat} {ra : Option Addr} {P : List Int} (h : V.ownsRow base 63 2 (.slice ra n rc) n (ps2 P)) (hn : P.length = n) {k : Nat} (hk : k < n) :
    ∃ g, ra = some ⟨g, 0, none⟩ ∧ V.cell? ⟨g, k * 2, none⟩ = some (.int .i64 (P.getD k 0)) ∧ V.cell? ⟨g, k * 2 + 1, none⟩ = some (fnV (P.getD k 0)) := by
  obtain ⟨h0, h1⟩ := ps2_at (P := P) (k := k) (by omega)
  rcases h.2 with ⟨h2, -⟩ | ⟨b, cap, cs, e, -, hc, -, -, -, hcs⟩
  · have := h.1
    rw [ps2_len] at this
    cases h2
    omega
  · cases e
    have hg : ∀ j v, (ps2 P)[j]? = some v → cs[j]? = some v := fun j v hj => by
      rw [← hcs, List.getElem?_take] at hj
      split at hj
      · simpa using hj
      · cases hj
    exact ⟨b, rfl, HasC.cell (t := 63) hc _ (hg _ _ h0), HasC.cell (t := 63) hc _ (hg _ _ h1)⟩
/-- Run's boxes, the code so far, the row. -/
structure Rh (W V : World) (f d : Int) (a : Option Addr) (m c : Nat) (I : List In) (u : Int) (ra : Option Addr) (n rc : Nat) (P : List Int) : Prop where
  b : Fg W V (cd f d a m c u) cdz
  i : V.ownsRow W.heap.size 57 6 (.slice a m c) m (is6 I)
  r : V.ownsRow W.heap.size 63 2 (.slice ra n rc) n (ps2 P)
theorem Rh.below {W V V' : World} {f d : Int} {a : Option Addr} {m c : Nat} {I : List In} {u : Int} {ra : Option Addr} {n rc : Nat} {P : List Int} (h : Rh W V f d a m c I u ra n rc P) (hb : Below V.heap.size V V') : Rh W V' f d a m c I u ra n rc P := ⟨h.b.below hb, Cde.own_later h.i hb, Cde.own_later h.r hb⟩
theorem Rh.put {W V : World} {f d : Int} {a a' : Option Addr} {m c m' c' : Nat} {I I' : List In} {u u' : Int} {ra : Option Addr} {n rc : Nat} {P : List Int} (h : Rh W V f d a m c I u ra n rc P) (hI : V.ownsRow W.heap.size 57 6 (.slice a' m' c') m' (is6 I')) :
    Rh W (s4 V W.heap.size (.int .i64 f) (.int .i64 d) (.slice a' m' c') (.int .i64 u')) f d a' m' c' I' u' ra n rc P := by
  refine ⟨⟨(((h.b.c.set 0 _).set 1 _).set 2 _).set 3 _, ?_, ?_⟩, s4_own hI (own_ne hI h.b.c (by decide)) _ _ _ _, s4_own h.r (own_ne h.r h.b.c (by decide)) _ _ _ _⟩
  · exact (((h.b.r.other (p := ⟨W.heap.size, 0, none⟩) (by simp) _).other (p := ⟨W.heap.size, 1, none⟩) (by simp) _).other (p := ⟨W.heap.size, 2, none⟩) (by simp) _).other (p := ⟨W.heap.size, 3, none⟩) (by simp) _
  · exact (((h.b.lo.setCell (p := ⟨W.heap.size, 0, none⟩) (by simp) _).setCell (p := ⟨W.heap.size, 1, none⟩) (by simp) _).setCell (p := ⟨W.heap.size, 2, none⟩) (by simp) _).setCell (p := ⟨W.heap.size, 3, none⟩) (by simp) _

set_option maxRecDepth 100000 in
set_option maxHeartbeats 16000000 in
theorem zrun_any (f d out : Int) {a oa : Option Addr} {n cap m oc : Nat} {L : List In} {P : List Int} {W : World} (hL : Ins W a n cap L) (hP : Ints W oa m oc P) :
    Calls Tryz.prog 9 #[.agg (cd f d a n cap out), .slice oa m oc] W (RnP W f d L out P) := by
  have b1 := bel1 W (.cells (cd f d a n cap out) 26)
  have b2 := bel b1 (bel1 _ (.cells cdz 26))
  have HF0 : Hid (Fg W ((W.alloc (.cells (cd f d a n cap out) 26)).alloc (.cells cdz 26)) (cd f d a n cap out) cdz) := hide ⟨(HasC.new W 26 (cd f d a n cap out)).alloc (.cells cdz 26), has_new1 W (.cells (cd f d a n cap out) 26) 26 cdz, b2⟩
  have HR := hide (zinrow_any (hP.later b2))
  have HLI := hide hL
  have HLn := hide hL.len
  have HPn := hide hP.len
  clear b1 b2 hL hP
  go_enter Tryz.func9, Tryz.ntmps9
  go_wp2_with fail
  refine HR.out.mono ?_
  rintro e V1 ⟨hb, ⟨hok, ra, rc, rfl, hO⟩ | ⟨hok, rfl⟩⟩
  · have HF1 := hide (HF0.out.below hb)
    have HRo := hide (Cde.own_mono hO HF0.out.lo.size)
    have HV := hide (Vfy.yverify_any f d out (HLI.out.later HF1.out.lo))
    obtain ⟨x0, x1, x2, x3⟩ := four_of HF1.out.c
    clear hb hO HR HF0
    go_wp2_with fail
    refine HV.out.mono ?_
    rintro e V2 ⟨ga, gc, rfl, hS, hb, -, -⟩
    obtain ⟨q, hq⟩ : ∃ q, vfN f d L out = q := ⟨_, rfl⟩
    obtain ⟨co, hco⟩ : ∃ co, vfC f d L out = co := ⟨_, rfl⟩
    obtain ⟨er, her⟩ : ∃ er, vfE f d L out = er := ⟨_, rfl⟩
    rw [hq, hco, her]
    have HEr := hide her
    have hrn : rnE f d L out P = vfE f d L out := if_pos hok
    have HRn := hide hrn
    have hb2 := bel1 V2 (.cells #[.slice ga q gc, .int .i64 co, .int .i64 0] 47)
    have HF2 := hide ((HF1.out.below hb).below hb2)
    have HR2 := hide (Cde.own_later (Cde.own_later HRo.out hb) hb2)
    clear hb hb2 hS HV HF1 HRo x0 x1 x2 x3 hq hco her hrn
    by_cases h0 : er = 0
    · have hr : (er != 0) = false := by simpa using h0
      go_upto_region 7 with fail
      obtain ⟨V3, hV3⟩ : ∃ V3, V2.alloc (.cells #[.slice ga q gc, .int .i64 co, .int .i64 0] 47) = V3 := ⟨_, rfl⟩
      rw [hV3] at HF2 HR2 ⊢
      clear hV3
      have h0' := HEr.out.trans h0
      obtain ⟨mc, -⟩ := Vfy.vf_parts h0'
      obtain ⟨-, m1, m2, -, -, -⟩ := Cde.mc_parts mc
      rw [HLn.out] at m1 m2
      have hm16 : m ≤ 16 := by rw [← HPn.out]; exact (okP_all hok).1
      have HCl := hide (Rdc.fclone_any (HLI.out.later HF2.out.lo) (by omega) (by omega))
      obtain ⟨x0, x1, x2, x3⟩ := four_of HF2.out.c
      clear mc
      go_wp2_with fail
      refine HCl.out.mono ?_
      rintro e V4 ⟨ca, cc, rfl, hO, hb⟩
      have HF4 := hide (HF2.out.below hb)
      have HR4 := hide (Cde.own_later HR2.out hb)
      have HO4 := hide (Cde.own_mono hO HF2.out.lo.size)
      clear hb hO HCl HF2 HR2 x0 x1 x2 x3
      obtain ⟨x0, x1, x2, x3⟩ := four_of HF4.out.c
      obtain ⟨r0, r1, r2, r3⟩ := four_fr HF4.out.c
      have HH : Hid (Rh W (V4.setCell ⟨W.heap.size, 2, none⟩ (.slice ca n cc)) f d ca n cc L out ra m rc P) := hide ⟨⟨HF4.out.c.set 2 _, HF4.out.r.other (p := ⟨W.heap.size, 2, none⟩) (by simp) _, HF4.out.lo.setCell (p := ⟨W.heap.size, 2, none⟩) (by simp) _⟩, ownsRow_setCell_other HO4.out (a := ⟨W.heap.size, 2, none⟩) (own_ne HO4.out HF4.out.c (by decide)) _, ownsRow_setCell_other HR4.out (a := ⟨W.heap.size, 2, none⟩) (own_ne HR4.out HF4.out.c (by decide)) _⟩
      clear HO4 HR4 HF4
      go_wp2_with fail
      clear x0 x1 x2 x3 r0 r1 r2 r3
      go_loopw [37] (fun iv wr => ∃ (k : Nat) (ia' : Option Addr) (im ic : Nat) (I : List In) (u : Int), k ≤ m ∧ iv = .int .i64 k ∧ psF f d (P.take k) (L, out) = (I, u) ∧ I.length = im ∧ Hid (Rh W wr f d ia' im ic I u ra m rc P)) (fun iv _ => m - (intOf iv).toNat)
      case atStart => exact ⟨0, ca, n, cc, L, out, Nat.zero_le _, rfl, rfl, HLn.out, HH⟩
      case round =>
        obtain ⟨k, ia', im, ic, I, u, hk, rfl, hI, hl, HX⟩ := hrel
        rename World => V5
        clear HH
        by_cases hlt : k < m
        · obtain ⟨g, e', c0, c1⟩ := row_at HX.out.r HPn.out hlt
          subst e'
          have htk : P.take (k + 1) = P.take k ++ [P.getD k 0] := Cde.take_snoc 0 (by rw [HPn.out]; exact hlt)
          have hkp := psF_keeps (f := f) (d := d) (P.take k) (L, out) h0'
          rw [hI] at hkp
          have hv := hkp.tk
          have hnx := psF_snoc f d (P.take k) (P.getD k 0) (L, out)
          rw [← htk, hI] at hnx
          clear hkp htk
          generalize P.getD k 0 = p at *
          obtain ⟨⟨I', u'⟩, hI'⟩ : ∃ x, ps1 f d (I, u) p = x := ⟨_, rfl⟩
          rw [hI'] at hnx
          have HNx := hide hnx
          obtain ⟨im', him'⟩ : ∃ x, I'.length = x := ⟨_, rfl⟩
          have HIm := hide him'
          obtain ⟨fv, hfv⟩ : ∃ fv, Value.func (Fn.func (fnP p)) #[] #[] = fv := ⟨_, rfl⟩
          replace c1 := c1.trans (congrArg some hfv)
          have hbp := bel1 V5 (.cells #[.int .i64 p, fv] 63)
          have HX1 := hide (HX.out.below hbp)
          have hins : Ins (V5.alloc (.cells #[.int .i64 p, fv] 63)) ia' im ic I := by
            obtain ⟨a'', c'', e1, hI, -⟩ := Ins.of_owns HX1.out.i
            cases e1
            exact hI
          have HC := hide (pass_any p f d u hins hv hI' him')
          have HLt := hide hlt
          have j1 : (k : Int) < m := by omega
          have j0 : (0 : Int) ≤ k := by omega
          obtain ⟨x0, x1, x2, x3⟩ := four_of HX.out.b.c
          have z0 := HX.out.b.c.lt
          have hF := fnP_four p
          clear hins hv hI' him' hnx hbp hI hl HX
          generalize fnP p = F at hfv HC hF
          rcases hF with rfl | rfl | rfl | rfl
          all_goals
            subst hfv
            go_wp2_with fail
            refine HC.out.mono ?_
            rintro e V6 ⟨a', c', rfl, hO, hb⟩
            have hb2 := bel1 V6 (.cells (cd f d a' im' c' u') 26)
            have HX2 := hide ((HX1.out.below hb).below hb2)
            have HO2 := hide (Cde.own_later (Cde.own_mono hO HX1.out.b.lo.size) hb2)
            have HM2 := hide (HasC.new V6 26 (cd f d a' im' c' u'))
            clear hb hb2 hO HC HX1 x0 x1 x2 x3 z0 c0 c1
            go_upto_region 14 with fail
            obtain ⟨V7, hV7⟩ : ∃ V7, V6.alloc (.cells (cd f d a' im' c' u') 26) = V7 := ⟨_, rfl⟩
            obtain ⟨bm, hbm⟩ : ∃ bm, V6.heap.size = bm := ⟨_, rfl⟩
            rw [hV7] at HX2 HO2 HM2 ⊢
            rw [hbm] at HM2 ⊢
            clear hV7 hbm
            obtain ⟨x0, x1, x2, x3⟩ := four_of HX2.out.b.c
            obtain ⟨r0, r1, r2, r3⟩ := four_fr HX2.out.b.c
            obtain ⟨y0, y1, y2, y3⟩ := four_of HM2.out
            have HX3 := hide (HX2.out.put (u' := u') HO2.out)
            go_wp2_with fail
            unfold s4 at HX3
            have hlt' := HLt.out
            go_roundw
            case rel => exact ⟨k + 1, _, _, _, _, _, by omega, by go_num, HNx.out, HIm.out, HX3⟩
            case measure => simp [intOf]; omega
        · obtain rfl : k = m := by omega
          rw [List.take_of_length_le (by rw [HPn.out]; omega)] at hI
          have hrn := HRn.out.trans h0'
          obtain ⟨x0, x1, x2, x3⟩ := four_of HX.out.b.c
          obtain ⟨p0, p1, p2, p3⟩ := four_of HX.out.b.r
          obtain ⟨r0, r1, r2, r3⟩ := four_fr HX.out.b.r
          have HF5 := hide (put4 HX.out.b.r HX.out.b.lo (.int .i64 f) (.int .i64 d) (.slice ia' im ic) (.int .i64 u))
          have HO5 := hide (s4_own HX.out.i (own_ne HX.out.i HX.out.b.r (by decide)) (.int .i64 f) (.int .i64 d) (.slice ia' im ic) (.int .i64 u))
          obtain ⟨V6, hV6⟩ : ∃ V6, (((V5.setCell ⟨W.heap.size + 1, 0, none⟩ (.int .i64 f)).setCell ⟨W.heap.size + 1, 1, none⟩ (.int .i64 d)).setCell ⟨W.heap.size + 1, 2, none⟩ (.slice ia' im ic)).setCell ⟨W.heap.size + 1, 3, none⟩ (.int .i64 u) = V6 := ⟨_, rfl⟩
          unfold s4 at HO5 HF5
          rw [hV6] at HO5 HF5
          have HI := hide hI
          have HIl := hide hl
          clear hI hl
          go_wp2_with fail
          obtain ⟨q0, q1, q2, q3⟩ := four_of HF5.out.1
          exact bodyPost_ret (v := .tuple #[.agg (cd f d ia' im ic u), .int .i64 0]) (by simp [results, Tryz.results9, go_sem, q0, q1, q2, q3]) rfl (RnP.row hrn HI.out HIl.out HO5.out HF5.out.2)
    · have hr : (er != 0) = true := by simpa using h0
      go_upto_region 6 with fail
      obtain ⟨V3, hV3⟩ : ∃ V3, V2.alloc (.cells #[.slice ga q gc, .int .i64 co, .int .i64 0] 47) = V3 := ⟨_, rfl⟩
      rw [hV3] at HF2 ⊢
      clear hV3 HR2
      obtain ⟨p0, p1, p2, p3⟩ := four_of HF2.out.r
      obtain ⟨r0, r1, r2, r3⟩ := four_fr HF2.out.r
      obtain ⟨V4, hV4⟩ : ∃ V4, (((V3.setCell ⟨W.heap.size + 1, 0, none⟩ (.int .i64 0)).setCell ⟨W.heap.size + 1, 1, none⟩ (.int .i64 0)).setCell ⟨W.heap.size + 1, 2, none⟩ (.slice none 0 0)).setCell ⟨W.heap.size + 1, 3, none⟩ (.int .i64 0) = V4 := ⟨_, rfl⟩
      have HF3 := hide (put4 HF2.out.r HF2.out.lo (.int .i64 0) (.int .i64 0) (.slice none 0 0) (.int .i64 0))
      unfold s4 at HF3
      rw [hV4] at HF3
      go_wp2_with fail
      obtain ⟨q0, q1, q2, q3⟩ := four_of HF3.out.1
      exact bodyPost_ret (v := .tuple #[.agg cdz, .int .i64 er]) (by simp [results, Tryz.results9, go_sem, q0, q1, q2, q3]) rfl (RnP.no (HRn.out.trans HEr.out) h0 HF3.out.2)
  · have HF1 := hide (HF0.out.below hb)
    clear hb HR HF0
    go_upto_region 3 with fail
    obtain ⟨p0, p1, p2, p3⟩ := four_of HF1.out.r
    obtain ⟨r0, r1, r2, r3⟩ := four_fr HF1.out.r
    obtain ⟨V4, hV4⟩ : ∃ V4, (((V1.setCell ⟨W.heap.size + 1, 0, none⟩ (.int .i64 0)).setCell ⟨W.heap.size + 1, 1, none⟩ (.int .i64 0)).setCell ⟨W.heap.size + 1, 2, none⟩ (.slice none 0 0)).setCell ⟨W.heap.size + 1, 3, none⟩ (.int .i64 0) = V4 := ⟨_, rfl⟩
    have HF3 := hide (put4 HF1.out.r HF1.out.lo (.int .i64 0) (.int .i64 0) (.slice none 0 0) (.int .i64 0))
    unfold s4 at HF3
    rw [hV4] at HF3
    go_wp2_with fail
    obtain ⟨q0, q1, q2, q3⟩ := four_of HF3.out.1
    exact bodyPost_ret (v := .tuple #[.agg cdz, .int .i64 1]) (by simp [results, Tryz.results9, go_sem, q0, q1, q2, q3]) rfl (RnP.no (by rw [rnE, hok]; rfl) (by decide) HF3.out.2)

def bestP : List Int := [1, 2, 3, 1, 2, 4]
set_option maxRecDepth 100000 in
set_option maxHeartbeats 4000000 in
theorem zbest_any (f d out : Int) {a : Option Addr} {n cap : Nat} {L : List In} {W : World} (hL : Ins W a n cap L) :
    Calls Tryz.prog 11 #[.agg (cd f d a n cap out)] W (RnP W f d L out bestP) := by
  have b1 := bel1 W (.cells (cd f d a n cap out) 26)
  have b2 := bel b1 (bel1 _ (.cells cdz 26))
  have b3 := bel1 ((W.alloc (.cells (cd f d a n cap out) 26)).alloc (.cells cdz 26)) (.cells (Cde.zA bestP) 3)
  have HF0 : Hid (Fg W (((W.alloc (.cells (cd f d a n cap out) 26)).alloc (.cells cdz 26)).alloc (.cells (Cde.zA bestP) 3)) (cd f d a n cap out) cdz) := hide ⟨((HasC.new W 26 (cd f d a n cap out)).alloc (.cells cdz 26)).alloc _, (has_new1 W (.cells (cd f d a n cap out) 26) 26 cdz).alloc _, bel b2 b3⟩
  have hI := Cde.has_z (HasC.new ((W.alloc (.cells (cd f d a n cap out) 26)).alloc (.cells cdz 26)) 3 (Cde.zA bestP)) (by decide)
  have HR := hide (zrun_any f d out (hL.later (bel b2 b3)) hI)
  unfold RnP at HR ⊢
  generalize rnI f d L out bestP = I at *
  generalize rnU f d L out bestP = u at *
  generalize rnK f d L out bestP f = kf at *
  generalize rnK f d L out bestP d = kd' at *
  generalize rnE f d L out bestP = er at *
  obtain ⟨m, hm⟩ : ∃ m, I.length = m := ⟨_, rfl⟩
  rw [hm] at HR ⊢
  clear b1 b2 b3 hL hI hm
  rw [World.size_alloc, World.size_alloc] at HR
  go_enter Tryz.func11, Tryz.ntmps11
  go_wp2_with fail
  refine HR.out.mono ?_
  rintro e V1 ⟨a', c', rfl, hO, hb⟩
  have HF1 := hide (HF0.out.below hb)
  have HO1 := hide (Cde.own_mono hO HF0.out.lo.size)
  clear hb hO HR HF0
  obtain ⟨p0, p1, p2, p3⟩ := four_of HF1.out.r
  obtain ⟨r0, r1, r2, r3⟩ := four_fr HF1.out.r
  have HF5 := hide (put4 HF1.out.r HF1.out.lo (.int .i64 kf) (.int .i64 kd') (.slice a' m c') (.int .i64 u))
  have HO5 := hide (s4_own HO1.out (own_ne HO1.out HF1.out.r (by decide)) (.int .i64 kf) (.int .i64 kd') (.slice a' m c') (.int .i64 u))
  obtain ⟨V6, hV6⟩ : ∃ V6, (((V1.setCell ⟨W.heap.size + 1, 0, none⟩ (.int .i64 kf)).setCell ⟨W.heap.size + 1, 1, none⟩ (.int .i64 kd')).setCell ⟨W.heap.size + 1, 2, none⟩ (.slice a' m c')).setCell ⟨W.heap.size + 1, 3, none⟩ (.int .i64 u) = V6 := ⟨_, rfl⟩
  unfold s4 at HO5 HF5
  rw [hV6] at HO5 HF5
  go_wp2_with fail
  obtain ⟨q0, q1, q2, q3⟩ := four_of HF5.out.1
  exact bodyPost_ret (v := .tuple #[.agg (cd kf kd' a' m c' u), .int .i64 er]) (by simp [results, Tryz.results11, go_sem, q0, q1, q2, q3]) rfl ⟨a', c', rfl, HO5.out, HF5.out.2⟩

end Go.Proofs.Pss

/-
  awake of the statements; Run's two ways, apart.
-/
namespace Go.Proofs.Pss
open Go.RowKit Go.IntWalk YtijbmdmeiancgaaGreat.Knd
open Cde (In i0 ia kd cd Ins is6)
open Vfy (vfE)
set_option linter.unusedVariables false

def awL : List In := [⟨3, 0, 0, 0, 16, 0⟩, ⟨3, 0, 0, 0, 16, 0⟩, ⟨8, 0, 1, 0, 0, 0⟩, ⟨1, 0, 0, 0, 2, 0⟩, ⟨11, 2, 3, 0, 0, 0⟩]
set_option maxRecDepth 100000 in
theorem aw_all : rnE 0 8 awL 4 bestP = 0 ∧ rnI 0 8 awL 4 bestP = [⟨3, 0, 0, 0, 16, 0⟩, ⟨8, 0, 0, 0, 0, 0⟩, ⟨30, 1, 0, 0, 1, 0⟩] ∧ rnU 0 8 awL 4 bestP = 2 ∧ rnK 0 8 awL 4 bestP 0 = 0 ∧ rnK 0 8 awL 4 bestP 8 = 8 := by decide +kernel

set_option maxRecDepth 100000 in
set_option maxHeartbeats 4000000 in
theorem zawake_any (W : World) : Calls Tryz.prog 13 #[] W fun e w' => e = .returned (.bool true) ∧ Below W.heap.size W w' := by
  have HV := hide fun (V : World) (a : Option Addr) (h : Ins V a 5 5 awL) => zbest_any 0 8 4 h
  unfold RnP at HV
  rw [aw_all.1, aw_all.2.1, aw_all.2.2.1, aw_all.2.2.2.1, aw_all.2.2.2.2] at HV
  have HI := hide (Cde.has_ins (L := awL) (HasC.new W 57 (Cde.is6 awL).toArray) (by decide))
  have HB0 := hide (bel1 W (.cells (Cde.is6 awL).toArray 57))
  go_enter Tryz.func13, Tryz.ntmps13
  go_wp2_with fail
  refine (HV.out _ _ HI.out).mono ?_
  rintro e V1 ⟨a, cap, rfl, hO, hb⟩
  have HB1 := hide (bel HB0.out hb)
  obtain ⟨a', c', e', hI, -⟩ := Ins.of_owns hO
  cases e'
  obtain ⟨b, off, rfl, hlt, hcs⟩ := hI.at (by decide)
  obtain ⟨s0, s1, s2, s3, s4, s5⟩ := hcs 2 (by decide)
  change V1.cell? ⟨b, off + 12, none⟩ = some (.int .i64 30) at s0
  change V1.cell? ⟨b, off + 12 + 1, none⟩ = some (.int .i64 1) at s1
  change V1.cell? ⟨b, off + 12 + 2, none⟩ = some (.int .i64 0) at s2
  change V1.cell? ⟨b, off + 12 + 3, none⟩ = some (.int .i64 0) at s3
  change V1.cell? ⟨b, off + 12 + 4, none⟩ = some (.int .i64 1) at s4
  change V1.cell? ⟨b, off + 12 + 5, none⟩ = some (.int .i64 0) at s5
  simp only [List.length_cons, List.length_nil]
  have HB2 := hide (bel HB1.out (bel1 V1 (.cells (cd 0 8 (some ⟨b, off, none⟩) 3 cap 2) 26)))
  clear hb hI hO hcs HV HI HB0
  go_wp2_with fail
  go_ret
  exact ⟨rfl, HB2.out⟩

theorem zrun_no (f d out : Int) {a oa : Option Addr} {n cap m oc : Nat} {L : List In} {P : List Int} {W : World} (hL : Ins W a n cap L) (hP : Ints W oa m oc P) {er : Int} (h : rnE f d L out P = er) (h0 : er ≠ 0) :
    Calls Tryz.prog 9 #[.agg (cd f d a n cap out), .slice oa m oc] W fun e W' => ∃ a' c', e = .returned (.tuple #[.agg (cd 0 0 a' 0 c' 0), .int .i64 er]) ∧ Below W.heap.size W W' := by
  refine (zrun_any f d out hL hP).mono ?_
  rintro e W' ⟨a', c', rfl, hO, hb⟩
  subst h
  exact ⟨a', c', by simp [rnI, rnK, rnU, h0], hb⟩
theorem zrun_ok (f d out : Int) {a oa : Option Addr} {n cap m oc : Nat} {L : List In} {P : List Int} {W : World} (hL : Ins W a n cap L) (hP : Ints W oa m oc P) (hok : okP P = true) (h : vfE f d L out = 0) {I : List In} {u : Int} (hI : psF f d P (L, out) = (I, u)) {k : Nat} (hk : I.length = k) :
    Calls Tryz.prog 9 #[.agg (cd f d a n cap out), .slice oa m oc] W fun e W' => ∃ a' c', e = .returned (.tuple #[.agg (cd f d a' k c' u), .int .i64 0]) ∧ W'.ownsRow W.heap.size 57 6 (.slice a' k c') k (is6 I) ∧ Below W.heap.size W W' := by
  refine (zrun_any f d out hL hP).mono ?_
  rintro e W' ⟨a', c', rfl, hO, hb⟩
  have h1 : rnE f d L out P = 0 := by rw [rnE, if_pos hok]; exact h
  have e1 : rnI f d L out P = I := by rw [rnI, if_pos h1, hI]
  rw [e1, hk] at hO
  exact ⟨a', c', by rw [e1, hk]; simp [rnK, rnU, h1, hI], hO, hb⟩

end Go.Proofs.Pss
