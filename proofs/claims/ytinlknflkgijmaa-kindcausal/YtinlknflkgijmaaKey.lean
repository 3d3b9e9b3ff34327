/-
  A map whose keys are places: what a key reads as, and a table of numbers by their places.
-/
import Derived.Test.YtinlknflkgijmaaAt
import Derived.Maps.OwnIn
import Derived.Maps.OwnSet
import Derived.DeepKeys4
namespace Go.Proofs.Ytinlknflkgijmaa
open Go.RowKit Go.Maps
set_option linter.unusedVariables false

theorem laidOut : laidOutB Try.prog = true := by kernel_rfl
theorem row30 : (30 : TypeId) < Try.prog.types.size := of_decide_eq_true (by kernel_rfl)
theorem wide30 : (match Try.prog.underlying 30 with | some (.array _ _) | some (.struct _) => true | _ => false) = true := by rw [Try.underlying30]
theorem law30 : Keyed Try.prog 30 := Keyed.of_law (deep_law_laid laidOut (m := 2) (by omega) row30 (by kernel_rfl) wide30)
theorem keyType30 : Try.prog.keyType 30 = true := by kernel_rfl
theorem cells30 : Try.prog.cellsOf 30 = 4 := by kernel_rfl

def wf64 (n : Int) : Prop := -9223372036854775808 ≤ n ∧ n ≤ 9223372036854775807
def Plc.wf (p : Plc) : Prop := wf64 p.back ∧ wf64 p.coords ∧ wf64 p.x ∧ wf64 p.y

theorem wf64_lit {n : Int} (h : wf64 n) : (Lit.int .i64 n).wf = true := by
  unfold wf64 at h; simp [Lit.wf, IntKind.min, IntKind.max, IntKind.bits, IntKind.signed]; omega

theorem cells3 : Try.prog.cellsOf 3 = 1 := by kernel_rfl

theorem lits3 (d : Nat) {n : Int} (h : wf64 n) : Try.prog.keyLits (d + 1) 3 [.int .i64 n] = some [.int .i64 n] := by
  unfold Program.keyLits
  rw [Try.underlying3]
  simp [wf64_lit h]

theorem lits30 (d : Nat) {p : Plc} (h : p.wf) : Try.prog.keyLits (d + 1 + 1) 30 (pcells p).toList = some [.int .i64 p.back, .int .i64 p.coords, .int .i64 p.x, .int .i64 p.y] := by
  obtain ⟨h0, h1, h2, h3⟩ := h
  unfold Program.keyLits
  simp only [Try.underlying30]
  simp [pcells, cells30, cells3, lits3 d h0, lits3 d h1, lits3 d h2, lits3 d h3]

noncomputable def kl (p : Plc) : Lit := (keyOf Try.prog 30 (.agg (pcells p))).getD (.bool false)

theorem key_some {p : Plc} (h : p.wf) : keyOf Try.prog 30 (.agg (pcells p)) = some (kl p) := by
  have : ∃ l, keyOf Try.prog 30 (.agg (pcells p)) = some l := by
    have hf : (Value.agg (pcells p)).formed Try.prog 30 = true := by
      simp only [Value.formed, Try.underlying30, cells30]
      rfl
    obtain ⟨k, hk⟩ : ∃ k, Try.prog.types.size + 1 = k + 1 + 1 := ⟨Try.prog.types.size - 1, by have h : (30 : Nat) < Try.prog.types.size := row30; omega⟩
    have hl := lits30 k h
    rw [← hk] at hl
    refine ⟨.string (keyBytes [.int .i64 p.back, .int .i64 p.coords, .int .i64 p.x, .int .i64 p.y]), ?_⟩
    unfold keyOf
    rw [Try.underlying30]
    simp only [keyType30, hf, Bool.and_self, if_true, Value.cells, hl, Option.map_some]
  obtain ⟨l, hl⟩ := this
  unfold kl
  rw [hl]; rfl

theorem kl_inj {p q : Plc} (hp : p.wf) (hq : q.wf) (h : kl p = kl q) : p = q := by
  have h1 := key_some hp
  have h2 := key_some hq
  rw [← h] at h2
  have := law30.inj h1 h2
  simp [pcells] at this
  cases p; cases q
  simp_all

theorem kl_key {p : Plc} (hp : p.wf) : WideAt.IsKeyLit (kl p) := law30.key (key_some hp)


/-- The number that was last put in for a place. -/
def look (L : List Plc) (pre : List (Fin 64)) (p : Plc) : Option Nat := pre.foldl (fun r i => if L.getD i.val zp = p then some i.val else r) none

theorem look_snoc (L : List Plc) (pre : List (Fin 64)) (i : Fin 64) (p : Plc) : look L (pre ++ [i]) p = if L.getD i.val zp = p then some i.val else look L pre p := by simp [look]

/-- The map D tells the numbers of pre by their places. -/
def Tab (L : List Plc) (pre : List (Fin 64)) (D : DataW Unit) : Prop :=
  IsMap D ∧ ∀ p : Plc, p.wf → has D (kl p) = (look L pre p).isSome ∧ D.atKey (kl p) (.lit (.int .i64 0)) = .lit (.int .i64 (((look L pre p).getD 0 : Nat) : Int))

theorem Tab.nil (L : List Plc) : Tab L [] (.map []) := ⟨⟨_, rfl⟩, fun p _ => ⟨rfl, rfl⟩⟩

theorem Tab.snoc {L : List Plc} {pre : List (Fin 64)} {D : DataW Unit} (h : Tab L pre D) (i : Fin 64) (hi : (L.getD i.val zp).wf) : Tab L (pre ++ [i]) (D.put (kl (L.getD i.val zp)) (.lit (.int .i64 ((i.val : Nat) : Int)))) := by
  refine ⟨h.1.put _ _, fun p hp => ?_⟩
  rw [look_snoc]
  by_cases e : L.getD i.val zp = p
  · rw [if_pos e, e, has_put_same h.1 (kl_key hp), atKey_put_same h.1 (kl_key hp)]
    exact ⟨rfl, rfl⟩
  · rw [if_neg e]
    have hne : kl p ≠ kl (L.getD i.val zp) := fun h' => e (kl_inj hp hi h').symm
    rw [has_put_other hne, atKey_put_other hne]
    exact h.2 p hp

theorem plcs_wf (f d : Int) : ∀ p ∈ plcs f d, p.wf := by
  unfold plcs
  rcases kind3 f d with ⟨hm, rfl⟩ | ⟨hm, rfl⟩ | hm
  · have e : blks 0 d = imageB := by simp [blks, hm]
    rw [e]; unfold Plc.wf wf64; decide
  · have e : blks 1 d = soundB := by simp [blks, hm]
    rw [e]; unfold Plc.wf wf64; decide
  · have e : blks f d = [] := by simp [blks, hm]
    rw [e]; simp [plsAll]

theorem getD_wf (f d : Int) (i : Nat) : ((plcs f d).getD i zp).wf := by
  by_cases h : i < (plcs f d).length
  · have e : (plcs f d).getD i zp = (plcs f d)[i] := by simp [List.getD, h]
    rw [e]; exact plcs_wf f d _ (List.getElem_mem h)
  · simp [List.getD, h, zp, Plc.wf, wf64]

end Go.Proofs.Ytinlknflkgijmaa
