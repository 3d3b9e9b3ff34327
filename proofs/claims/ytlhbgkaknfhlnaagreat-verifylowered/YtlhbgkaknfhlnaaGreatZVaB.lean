/-
  eval.Eval; the law's run and flat.
-/
import Derived.Test.YtlhbgkaknfhlnaaGreatZVaA
import Derived.Test.YtlhbgkaknfhlnaaGreatZTaA
import Derived.Test.YtlhbgkaknfhlnaaGreatZKnRef
import Derived.Test.YtlhbgkaknfhlnaaGreatZCw
import Derived.BigRegion
namespace Go.Proofs.YtlhbgkaknfhlnaaGreat
open Go.RowKit Go.IntWalk Lx Pz
set_option linter.unusedVariables false

theorem sound_root {NM : List Txt} {BS : List Int} {NS : List Nd} {root : Int} (h : chkP NM BS NS root = true) : 0 ≤ root ∧ root.toNat < NS.length ∧ NS.length ≤ 1024 := by
  obtain ⟨es, ex, hD⟩ := chk_dec.1 h
  have h1 := hD.root
  have h2 : 1 ≤ NS.length := by rw [hD.nodes, List.length_append, E.flat_len]; have := ex.size_pos; omega
  have := hD.few
  omega

theorem own_ne3 {W : World} {base size b n : Nat} {t e : TypeId} {v : Value} {xs : List Value} {cs : Array Value} (h : W.ownsRow base e size v n xs) (hb : HasC W b t cs) (ht : t ≠ e) : v.ownBlock ≠ some b := by
  intro hk
  obtain ⟨-, cs', fr, h2⟩ := owns_block h b hk
  rw [hb] at h2
  cases h2
  exact ht rfl
theorem own_put1 {V : World} {base b : Nat} {e t : TypeId} {size n : Nat} {v : Value} {xs : List Value} {cs : Array Value} (h : V.ownsRow base e size v n xs) (hb : HasC V b t cs) (ht : t ≠ e) (i : Nat) (x : Value) : (V.setCell ⟨b, i, none⟩ x).ownsRow base e size v n xs := by
  refine ownsRow_setCell_other h (a := ⟨b, i, none⟩) ?_ x
  exact own_ne3 h hb ht
theorem Ls.put {w W : World} {v : Value} {L : List Int} {b : Nat} {t : TypeId} {cs : Array Value} (h : Ls w W v L) (hb : HasC W b t cs) (ht : t ≠ 3) (hw : w.heap.size ≤ b) (i : Nat) (x : Value) : Ls w (W.setCell ⟨b, i, none⟩ x) v L :=
  ⟨own_put1 h.a hb ht i x, h.bel.setCell (p := ⟨b, i, none⟩) hw x⟩
theorem list_ls2 {w W : World} {v : Value} {L : List Int} {ops : Array Oper} {rest : List Oper} {o : Oper} {a : Act} {Q : Exit → Act → World → Prop}
    (hgd : o.guard = none) (s x : Operand) (ho : o.op = .call { callee := .builtin .append, args := #[s, x], argTypes := #[43, 43] })
    (hs : a.eval s = v) (hen : Ls w W v L) (b : Nat) (p : Int) (hx : a.eval x = .slice (some ⟨b, 0, none⟩) 1 1) (hc : HasC W b 3 #[.int .i64 p]) (h3 : L.length ≤ 2000000)
    (h : ∀ g cap w', Ls w w' (.slice (some ⟨g, 0, none⟩) (L.length + 1) cap) (L ++ [p]) → Kp [3] W w' → wpList Tryz.prog ops Q rest (a.put o.dst (.slice (some ⟨g, 0, none⟩) (L.length + 1) cap)) w') :
    wpList Tryz.prog ops Q (o :: rest) a W :=
  list_in hgd s x ho hs hen.a hen.bel.size b p hx hc h3 fun g cap w' h1 h2 h4 => h g cap w' ⟨h1, h4 w hen.bel rfl⟩ h2

abbrev wd0 (v : Value) : Array Value := #[.int .i64 0, .int .i64 0, .int .i64 0, v]
/-- What flat answers. -/
def FlP (w : World) (m : Nat) (x : Int) (e : Ending) (W' : World) : Prop :=
  ∃ v, e = .returned (.agg (wd0 v)) ∧ Ls w W' v (List.replicate m x)

end Go.Proofs.YtlhbgkaknfhlnaaGreat

/-
  The median-edge predictor: what it comes to, plainly.
-/
namespace Go.Proofs.YtlhbgkaknfhlnaaGreat
open Lx Pz
set_option linter.unusedVariables false

def w32 (a : Int) : Prop := -2147483648 ≤ a ∧ a ≤ 2147483647
theorem wd_of {a : Int} (h : w32 a) : Spn.wd a = true := Spn.wd_iff.2 h
theorem val_add {a b : Int} (ha : w32 a) (hb : w32 b) (h : w32 (a + b)) : Spn.valZ 8 0 0 [a, b] = (a + b, 0) := by
  have hm : Spn.mayB 8 0 0 [a, b] = true := by simp [Spn.mayB, wd_of ha, wd_of hb]; decide
  unfold Spn.valZ
  rw [if_pos hm]
  simp only [List.getD_cons_zero, List.getD_cons_succ]
  rw [show Spn.ex 8 0 0 a b (([] : List Int).getD 0 0) = (a + b, 0) from rfl]
  simp [wd_of h]
theorem val_sub {a b : Int} (ha : w32 a) (hb : w32 b) (h : w32 (a - b)) : Spn.valZ 9 0 0 [a, b] = (a - b, 0) := by
  have hm : Spn.mayB 9 0 0 [a, b] = true := by simp [Spn.mayB, wd_of ha, wd_of hb]; decide
  unfold Spn.valZ
  rw [if_pos hm]
  simp only [List.getD_cons_zero, List.getD_cons_succ]
  rw [show Spn.ex 9 0 0 a b (([] : List Int).getD 0 0) = (a - b, 0) from rfl]
  simp [wd_of h]
def medZ (a b c : Int) : Int := max (min a b) (min (max a b) c)
theorem val_med {a b c : Int} (ha : w32 a) (hb : w32 b) (hc : w32 c) : Spn.valZ 27 0 0 [a, b, c] = (medZ a b c, 0) := by
  have hm : Spn.mayB 27 0 0 [a, b, c] = true := by simp [Spn.mayB, wd_of ha, wd_of hb, wd_of hc]; decide
  have h : w32 (medZ a b c) := by unfold medZ w32 at *; omega
  unfold Spn.valZ
  rw [if_pos hm]
  simp only [List.getD_cons_zero, List.getD_cons_succ]
  rw [show Spn.ex 27 0 0 a b c = (medZ a b c, 0) from rfl]
  simp [wd_of h]

theorem num_same {f d d' : Int} (hm : Knd.May f d) (hm' : Knd.May f d') (p : Knd.Plc) : Knd.numZ f d p = Knd.numZ f d' p := by
  unfold Knd.numZ; rw [plcs_same hm hm']
theorem may8 : Knd.May 0 8 := by decide
theorem num_a {d : Int} (h : Knd.May 0 d) : Knd.numZ 0 d ⟨0, 2, -1, 0⟩ = some 16 := by rw [num_same h may8]; decide +kernel
theorem num_b {d : Int} (h : Knd.May 0 d) : Knd.numZ 0 d ⟨0, 2, 0, -1⟩ = some 10 := by rw [num_same h may8]; decide +kernel
theorem num_c {d : Int} (h : Knd.May 0 d) : Knd.numZ 0 d ⟨0, 2, -1, -1⟩ = some 9 := by rw [num_same h may8]; decide +kernel
theorem aw_ns : nodesOf [] awE = [lf 3 0 0 2 (-1) 0, lf 3 0 0 2 0 (-1), lf 3 0 0 2 (-1) 0, lf 3 0 0 2 0 (-1), ⟨8, 2, 3, 0, 0, 0, 0, 0, 0⟩, lf 3 0 0 2 (-1) (-1), ⟨9, 4, 5, 0, 0, 0, 0, 0, 0⟩, ⟨27, 0, 1, 6, 0, 0, 0, 0, 0⟩] := by decide +kernel
theorem aw_rt : rootOf [] awE = 7 := by decide +kernel
theorem med_va {d : Int} (hm : Knd.May 0 d) {L : List Int} {a b c : Int} (ha : L.getD 16 0 = a) (hb : L.getD 10 0 = b) (hc : L.getD 9 0 = c) (ra : 0 ≤ a ∧ a ≤ 65535) (rb : 0 ≤ b ∧ b ≤ 65535) (rc : 0 ≤ c ∧ c ≤ 65535) :
    (vaR 0 d ⟨0, 0, 0, L⟩ (bdL [] 0) (nodesOf [] awE) []).getD 7 0 = medZ a b (a + b - c) := by
  have pa : ∀ V, vaN 0 d ⟨0, 0, 0, L⟩ (bdL [] 0) V (lf 3 0 0 2 (-1) 0) = a := fun V => by
    rw [show vaN 0 d ⟨0, 0, 0, L⟩ (bdL [] 0) V (lf 3 0 0 2 (-1) 0) = L.getD ((Knd.numZ 0 d ⟨0, 2, -1, 0⟩).getD 0) 0 from rfl, num_a hm]; exact ha
  have pb : ∀ V, vaN 0 d ⟨0, 0, 0, L⟩ (bdL [] 0) V (lf 3 0 0 2 0 (-1)) = b := fun V => by
    rw [show vaN 0 d ⟨0, 0, 0, L⟩ (bdL [] 0) V (lf 3 0 0 2 0 (-1)) = L.getD ((Knd.numZ 0 d ⟨0, 2, 0, -1⟩).getD 0) 0 from rfl, num_b hm]; exact hb
  have pc : ∀ V, vaN 0 d ⟨0, 0, 0, L⟩ (bdL [] 0) V (lf 3 0 0 2 (-1) (-1)) = c := fun V => by
    rw [show vaN 0 d ⟨0, 0, 0, L⟩ (bdL [] 0) V (lf 3 0 0 2 (-1) (-1)) = L.getD ((Knd.numZ 0 d ⟨0, 2, -1, -1⟩).getD 0) 0 from rfl, num_c hm]; exact hc
  have p8 : vaN 0 d ⟨0, 0, 0, L⟩ (bdL [] 0) [a, b, a, b] ⟨8, 2, 3, 0, 0, 0, 0, 0, 0⟩ = a + b := by
    rw [show vaN 0 d ⟨0, 0, 0, L⟩ (bdL [] 0) [a, b, a, b] ⟨8, 2, 3, 0, 0, 0, 0, 0, 0⟩ = (Spn.valZ 8 0 0 [a, b]).1 from rfl, val_add (by unfold w32; omega) (by unfold w32; omega) (by unfold w32; omega)]
  have p9 : vaN 0 d ⟨0, 0, 0, L⟩ (bdL [] 0) [a, b, a, b, a + b, c] ⟨9, 4, 5, 0, 0, 0, 0, 0, 0⟩ = a + b - c := by
    rw [show vaN 0 d ⟨0, 0, 0, L⟩ (bdL [] 0) [a, b, a, b, a + b, c] ⟨9, 4, 5, 0, 0, 0, 0, 0, 0⟩ = (Spn.valZ 9 0 0 [a + b, c]).1 from rfl, val_sub (by unfold w32; omega) (by unfold w32; omega) (by unfold w32; omega)]
  have p27 : vaN 0 d ⟨0, 0, 0, L⟩ (bdL [] 0) [a, b, a, b, a + b, c, a + b - c] ⟨27, 0, 1, 6, 0, 0, 0, 0, 0⟩ = medZ a b (a + b - c) := by
    rw [show vaN 0 d ⟨0, 0, 0, L⟩ (bdL [] 0) [a, b, a, b, a + b, c, a + b - c] ⟨27, 0, 1, 6, 0, 0, 0, 0, 0⟩ = (Spn.valZ 27 0 0 [a, b, a + b - c]).1 from rfl, val_med (by unfold w32; omega) (by unfold w32; omega) (by unfold w32; omega)]
  rw [aw_ns]
  simp only [vaR, List.nil_append, List.cons_append, pa, pb, pc, p8, p9, p27]
  rfl
theorem med_fits {d : Int} (hm : Knd.May 0 d) {L : List Int} (hl : L.length = 44) (h : ∀ z ∈ L, 0 ≤ z ∧ z ≤ Knd.highZ 0 d) : Fits 0 d ⟨0, 0, 0, L⟩ := by
  refine ⟨⟨⟨⟨0, Knd.colZ 0 - 1, ?_, Int.le_refl 0, show (0 : Int) ≤ Knd.colZ 0 - 1 by decide⟩, ⟨0, Knd.rowZ 0 - 1, ?_, Int.le_refl 0, show (0 : Int) ≤ Knd.rowZ 0 - 1 by decide⟩⟩, ⟨0, 3, ?_, Int.le_refl 0, show (0 : Int) ≤ 3 by decide⟩⟩, ?_, ?_⟩
  · unfold Knd.inZ; rw [if_neg (by simpa using hm)]; rfl
  · unfold Knd.inZ; rw [if_neg (by simpa using hm)]; rfl
  · unfold Knd.inZ; rw [if_neg (by simpa using hm)]; rfl
  · rw [(Knd.zs0 hm).2.2.2]; show ((L.length : Nat) : Int) = 44; omega
  · rw [(Knd.zs0 hm).1]; exact h
theorem med_ck {d : Int} (hm : Knd.May 0 d) : ckE 0 d [] (bdL [] 0) (nodesOf [] awE) (rootOf [] awE) = 0 := by
  have h16 : ckE 0 16 [] (bdL [] 0) (nodesOf [] awE) (rootOf [] awE) = 0 := by decide +kernel
  obtain ⟨es, ex, hD⟩ := chk_dec.1 (ck_sound h16)
  have := ck_narrow (d' := d) hm (by have := hm.2.2; exact this) hD.wl (by rw [aw_ns]; decide) h16
  exact this.1
theorem med_ev {d : Int} (hm : Knd.May 0 d) {L : List Int} (hl : L.length = 44) (h : ∀ z ∈ L, 0 ≤ z ∧ z ≤ Knd.highZ 0 d) {a b c : Int} (ha : L.getD 16 0 = a) (hb : L.getD 10 0 = b) (hc : L.getD 9 0 = c) (ra : 0 ≤ a ∧ a ≤ 65535) (rb : 0 ≤ b ∧ b ≤ 65535) (rc : 0 ≤ c ∧ c ≤ 65535) :
    evE 0 d ⟨0, 0, 0, L⟩ [] (bdL [] 0) (nodesOf [] awE) (rootOf [] awE) = 0 ∧ evV 0 d ⟨0, 0, 0, L⟩ [] (bdL [] 0) (nodesOf [] awE) (rootOf [] awE) = medZ a b (a + b - c) := by
  have h0 := evE_zero.2 ⟨med_ck hm, med_fits hm hl h⟩
  refine ⟨h0, ?_⟩
  unfold evV
  rw [if_pos h0, aw_rt]
  exact med_va hm ha hb hc ra rb rc

end Go.Proofs.YtlhbgkaknfhlnaaGreat

/-
  awake.
-/
namespace Go.Proofs.YtlhbgkaknfhlnaaGreat
open Go.RowKit Go.IntWalk Lx Pz
set_option linter.unusedVariables false

theorem Ls.set {w W : World} {g n cap : Nat} {L : List Int} (h : Ls w W (.slice (some ⟨g, 0, none⟩) n cap) L) (hn : L.length = n) (j : Nat) (x : Int) : Ls w (W.setCell ⟨g, j, none⟩ (.int .i64 x)) (.slice (some ⟨g, 0, none⟩) n cap) (L.set j x) := by
  have h1 := h.a
  rw [hn] at h1
  have h2 := (World.ownsRow.stored h1 j (.int .i64 x)).1
  have hg := (h.a.lt g rfl).1
  refine ⟨?_, h.bel.setCell (p := ⟨g, j, none⟩) hg _⟩
  rw [List.length_set, hn]
  have e : (in64 L).set j (.int .i64 x) = in64 (L.set j x) := by simp [in64]
  rw [← e]
  exact h2
theorem Ls.ints {w W : World} {g n cap : Nat} {L : List Int} (h : Ls w W (.slice (some ⟨g, 0, none⟩) n cap) L) (hn : L.length = n) : Knd.Ints W (some ⟨g, 0, none⟩) n cap L := by
  have h1 := h.a
  rw [hn] at h1
  obtain ⟨a, c, e, hi, -⟩ := Knd.Ints.of_owns h1
  cases e
  exact hi
theorem Ls.form {w W : World} {v : Value} {L : List Int} (h : Ls w W v L) (hn : 0 < L.length) : ∃ g cap, v = .slice (some ⟨g, 0, none⟩) L.length cap ∧ w.heap.size ≤ g := by
  rcases own_forms h.a with ⟨-, h0⟩ | ⟨g, c, e⟩
  · omega
  · subst e; exact ⟨g, c, rfl, (h.a.lt g rfl).1⟩

def awL : List Int := ((List.replicate 44 10).set 16 7).set 10 30
theorem awL_ok : awL.length = 44 ∧ awL.getD 16 0 = 7 ∧ awL.getD 10 0 = 30 ∧ awL.getD 9 0 = 10 ∧ ∀ z ∈ awL, 0 ≤ z ∧ z ≤ Knd.highZ 0 8 := by decide +kernel
end Go.Proofs.YtlhbgkaknfhlnaaGreat
