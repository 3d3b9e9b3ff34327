/-
  What a program comes to on a window, plainly.
-/
import Derived.Test.YtlhbgkaknfhlnaaGreatZEaB
import Derived.Test.YtlhbgkaknfhlnaaGreatZKnF
namespace Go.Proofs.YtlhbgkaknfhlnaaGreat
open Lx Pz
set_option linter.unusedVariables false

/-- A window's numbers. -/
structure Wd where
  x : Int
  y : Int
  c : Int
  ps : List Int
abbrev wdA (v : Wd) (a : Option Addr) (n cap : Nat) : Array Value := #[.int .i64 v.x, .int .i64 v.y, .int .i64 v.c, .slice a n cap]
abbrev Fits (f d : Int) (v : Wd) : Prop := Knd.Fit f d v.x v.y v.c v.ps
/-- An input. -/
def inpV (f d : Int) (v : Wd) (k : Int) : Int := if k = 0 then v.x else if k = 1 then v.y else if k = 2 then v.c else if k = 3 then Knd.lowZ f d else if k = 4 then Knd.highZ f d else Knd.borderZ f d
def smpV (f d : Int) (v : Wd) (n : Nd) : Int := v.ps.getD ((Knd.numZ f d (plOf n)).getD 0) 0
def opV (V : List Int) (n : Nd) : Int := (Spn.valZ n.op 0 0 ((prts n).map fun p => V.getD p.toNat 0)).1
/-- A node, by those ahead of it. -/
def vaN (f d : Int) (v : Wd) (BS V : List Int) (n : Nd) : Int :=
  if n.op = 4 then V.getD (BS.getD n.k.toNat 0).toNat 0 else if n.op = 1 then n.k else if n.op = 2 then inpV f d v n.k else if n.op = 3 then smpV f d v n else opV V n
def vaR (f d : Int) (v : Wd) (BS : List Int) : List Nd → List Int → List Int
  | [], V => V
  | n :: NS, V => vaR f d v BS NS (V ++ [vaN f d v BS V n])
theorem vaR_app (f d : Int) (v : Wd) (BS : List Int) : ∀ (A B : List Nd) (V : List Int), vaR f d v BS (A ++ B) V = vaR f d v BS B (vaR f d v BS A V)
  | [], B, V => rfl
  | n :: A, B, V => vaR_app f d v BS A B _
theorem vaR_len (f d : Int) (v : Wd) (BS : List Int) : ∀ (A : List Nd) (V : List Int), (vaR f d v BS A V).length = V.length + A.length
  | [], V => rfl
  | n :: A, V => by rw [vaR, vaR_len f d v BS A]; simp; omega
theorem vaR_snoc (f d : Int) (v : Wd) (BS : List Int) (A : List Nd) (n : Nd) (V : List Int) : vaR f d v BS (A ++ [n]) V = vaR f d v BS A V ++ [vaN f d v BS (vaR f d v BS A V) n] := by
  rw [vaR_app]; rfl
/-- All's error, and what Eval answers. -/
noncomputable def evE (f d : Int) (v : Wd) (NM : List Txt) (BS : List Int) (NS : List Nd) (root : Int) : Int := if ckE f d NM BS NS root = 0 then Knd.fitE f d v.x v.y v.c v.ps else ckE f d NM BS NS root
noncomputable def evV (f d : Int) (v : Wd) (NM : List Txt) (BS : List Int) (NS : List Nd) (root : Int) : Int := if evE f d v NM BS NS root = 0 then (vaR f d v BS NS []).getD root.toNat 0 else 0
theorem fitE_cases (f d : Int) (v : Wd) : (Fits f d v ∧ Knd.fitE f d v.x v.y v.c v.ps = 0) ∨ (¬ Fits f d v ∧ Knd.fitE f d v.x v.y v.c v.ps = 1) := by
  unfold Knd.fitE
  by_cases h : Fits f d v
  · exact .inl ⟨h, if_pos h⟩
  · exact .inr ⟨h, if_neg h⟩
theorem evE_zero {f d : Int} {v : Wd} {NM : List Txt} {BS : List Int} {NS : List Nd} {root : Int} : evE f d v NM BS NS root = 0 ↔ ckE f d NM BS NS root = 0 ∧ Fits f d v := by
  unfold evE
  constructor
  · intro h
    split at h
    · rename_i h1
      rcases fitE_cases f d v with ⟨h2, -⟩ | ⟨-, h2⟩
      · exact ⟨h1, h2⟩
      · omega
    · rename_i h1; exact absurd h h1
  · rintro ⟨h1, h2⟩
    rw [if_pos h1]
    rcases fitE_cases f d v with ⟨-, h3⟩ | ⟨h3, -⟩
    · exact h3
    · exact absurd h2 h3
theorem look_lt (L : List Knd.Plc) (p : Knd.Plc) : ∀ (k : Nat), k ≤ 64 → ∀ q, Knd.look L (Knd.upto k) p = some q → q < k
  | 0, _, q, h => by simp [Knd.upto, Knd.look] at h
  | k + 1, hk, q, h => by
    rw [Knd.upto_succ k (by omega), Knd.look_snoc] at h
    split at h
    · cases h; exact Nat.lt_succ_self k
    · have := look_lt L p k (by omega) q h; omega

end Go.Proofs.YtlhbgkaknfhlnaaGreat

/-
  eval's input, sample and made.
-/
namespace Go.Proofs.YtlhbgkaknfhlnaaGreat
open Go.RowKit Go.IntWalk Lx Pz
set_option linter.unusedVariables false

theorem four_of {W : World} {b : Nat} {t : TypeId} {x y z u : Value} (h : HasC W b t #[x, y, z, u]) : W.cell? ⟨b, 0, none⟩ = some x ∧ W.cell? ⟨b, 1, none⟩ = some y ∧ W.cell? ⟨b, 2, none⟩ = some z ∧ W.cell? ⟨b, 3, none⟩ = some u :=
  ⟨h.cell 0 rfl, h.cell 1 rfl, h.cell 2 rfl, h.cell 3 rfl⟩

/-- A list of numbers in memory of the call's own. -/
structure Ls (w W : World) (v : Value) (L : List Int) : Prop where
  a : W.ownsRow w.heap.size 3 1 v L.length (in64 L)
  bel : Below w.heap.size w W
theorem Ls.alloc {w W : World} {v : Value} {L : List Int} (h : Ls w W v L) (o : Obj) : Ls w (W.alloc o) v L := ⟨h.a.alloc o, h.bel.alloc h.bel.size o⟩
theorem Ls.drew {w W : World} {v : Value} {L : List Int} (h : Ls w W v L) : Ls w W.drew v L := ⟨h.a.drew, h.bel.drew⟩
theorem Ls.start (W : World) : Ls W W (.slice none 0 0) [] := ⟨⟨rfl, .inl ⟨rfl, rfl⟩⟩, Below.refl _ _⟩
theorem Ls.later {w W W' : World} {v : Value} {L : List Int} (h : Ls w W v L) (hb : Below W.heap.size W W') : Ls w W' v L := by
  have hg : W.grownBy W' none := ⟨hb.os, hb.tape, hb.output, hb.size, fun k hk _ => hb.block k hk⟩
  refine ⟨h.a.kept hg ?_, h.bel.trans (hb.mono h.bel.size)⟩
  cases hv : v.ownBlock with
  | none => exact .inl rfl
  | some q => exact .inr (by simp)
theorem list_ls {w W : World} {v : Value} {L : List Int} {ops : Array Oper} {rest : List Oper} {o : Oper} {a : Act} {Q : Exit → Act → World → Prop}
    (hgd : o.guard = none) (s x : Operand) (ho : o.op = .call { callee := .builtin .append, args := #[s, x], argTypes := #[43, 43] })
    (hs : a.eval s = v) (hen : Ls w W v L) (b : Nat) (p : Int) (hx : a.eval x = .slice (some ⟨b, 0, none⟩) 1 1) (hc : HasC W b 3 #[.int .i64 p]) (h3 : L.length ≤ 2000000)
    (h : ∀ g cap w', Ls w w' (.slice (some ⟨g, 0, none⟩) (L.length + 1) cap) (L ++ [p]) → wpList Tryz.prog ops Q rest (a.put o.dst (.slice (some ⟨g, 0, none⟩) (L.length + 1) cap)) w') :
    wpList Tryz.prog ops Q (o :: rest) a W :=
  list_in hgd s x ho hs hen.a hen.bel.size b p hx hc h3 fun g cap w' h1 h2 h4 => h g cap w' ⟨h1, h4 w hen.bel rfl⟩

theorem op_args {V : List Int} {n : Nd} {k : Nat} (hk : k < (prts n).length) : ((prts n).map fun p => V.getD p.toNat 0).take (k + 1) = ((prts n).map fun p => V.getD p.toNat 0).take k ++ [V.getD ((prts n).getD k 0).toNat 0] := by
  rw [take_snoc 0 (by simpa using hk)]
  congr 2
  simp [List.getD_eq_getElem?_getD, List.getElem?_map, List.getElem?_eq_getElem hk]

end Go.Proofs.YtlhbgkaknfhlnaaGreat

/-
  eval.All: what each node comes to.
-/
namespace Go.Proofs.YtlhbgkaknfhlnaaGreat
open Go.RowKit Go.IntWalk Lx Pz
set_option linter.unusedVariables false

/-- What All answers. -/
def AlP (w : World) (f d : Int) (v : Wd) (NM : List Txt) (BS : List Int) (NS : List Nd) (root : Int) (e : Ending) (W' : World) : Prop :=
  (evE f d v NM BS NS root ≠ 0 ∧ e = .returned (.tuple #[.slice none 0 0, .int .i64 (evE f d v NM BS NS root)]) ∧ Below w.heap.size w W') ∨
  (evE f d v NM BS NS root = 0 ∧ ∃ g, e = .returned (.tuple #[.slice (some ⟨g, 0, none⟩) NS.length NS.length, .int .i64 0]) ∧ w.heap.size ≤ g ∧ HasC W' g 3 (inA (vaR f d v BS NS [])) ∧ Below w.heap.size w W')

theorem num_lt {f d : Int} {v : Wd} {p : Knd.Plc} (hF : Fits f d v) {q : Nat} (hq : Knd.numZ f d p = some q) : q < v.ps.length := by
  have h1 := Knd.blks_bound f d
  have h2 := look_lt _ _ _ (by omega) q hq
  have h3 := Knd.plcs_len f d
  have h4 := hF.2.1
  omega
theorem ck_num {f d : Int} {NM : List Txt} {BS : List Int} {NS : List Nd} {root : Int} (h : ckE f d NM BS NS root = 0) {n : Nd} (hn : n ∈ NS) (h3 : n.op = 3) : ∃ q, Knd.numZ f d (plOf n) = some q := by
  unfold ckE at h
  split at h
  · cases h
  split at h
  · cases h
  split at h
  · cases h
  rename_i h1
  cases hq : Knd.numZ f d (plOf n) with
  | some q => exact ⟨q, rfl⟩
  | none =>
    exfalso
    apply h1
    rw [List.any_eq_true]
    exact ⟨n, hn, by unfold ahB; rw [hq, h3]; rfl⟩
theorem ck_sound {f d : Int} {NM : List Txt} {BS : List Int} {NS : List Nd} {root : Int} (h : ckE f d NM BS NS root = 0) : chkP NM BS NS root = true := by
  unfold ckE at h
  split at h
  · cases h
  split at h
  · cases h
  · rename_i h1; simpa using h1
theorem getN_mem {NS : List Nd} {i : Nat} (h : i < NS.length) : NS.getD i n0 ∈ NS := by
  rw [List.getD_eq_getElem?_getD, List.getElem?_eq_getElem h]; exact List.getElem_mem h

theorem opV_pre {BS D Z : List Int} {n : Nd} (hn : Wn BS D.length n) : opV (D ++ Z) n = opV D n := by
  unfold opV
  congr 2
  apply List.map_congr_left
  intro p hp
  exact getI_pre (hn.prt p hp).2

end Go.Proofs.YtlhbgkaknfhlnaaGreat
