/-
  What a program comes to on a window, plainly.
-/
import Derived.Test.YtngnnijpdjhelaaGreatZEaB
import Derived.Test.YtngnnijpdjhelaaGreatZKnF
namespace Go.Proofs.YtngnnijpdjhelaaGreat
open Lx Pz
set_option linter.unusedVariables false

/-- A window's numbers. -/
structure Wd where
  x : Int
  y : Int
  c : Int
  ps : List Int
abbrev wdA (v : Wd) (a : Option Addr) (n cap : Nat) : Array Value := #[.int .i64 v.x, .int .i64 v.y, .int .i64 v.c, .slice a n cap]
abbrev Fits (f d : Int) (v : Wd) : Prop := Knd.Fit f d v.x v.y v.c v.ps
/-- An input. -/
def inpV (f d : Int) (v : Wd) (k : Int) : Int := if k = 0 then v.x else if k = 1 then v.y else if k = 2 then v.c else if k = 3 then Knd.lowZ f d else if k = 4 then Knd.highZ f d else Knd.borderZ f d
def smpV (f d : Int) (v : Wd) (n : Nd) : Int := v.ps.getD ((Knd.numZ f d (plOf n)).getD 0) 0
def opV (V : List Int) (n : Nd) : Int := (Spn.valZ n.op 0 0 ((prts n).map fun p => V.getD p.toNat 0)).1
/-- A node, by those ahead of it. -/
def vaN (f d : Int) (v : Wd) (BS V : List Int) (n : Nd) : Int :=
  if n.op = 4 then V.getD (BS.getD n.k.toNat 0).toNat 0 else if n.op = 1 then n.k else if n.op = 2 then inpV f d v n.k else if n.op = 3 then smpV f d v n else opV V n
def vaR (f d : Int) (v : Wd) (BS : List Int) : List Nd → List Int → List Int
  | [], V => V
  | n :: NS, V => vaR f d v BS NS (V ++ [vaN f d v BS V n])
theorem vaR_app (f d : Int) (v : Wd) (BS : List Int) : ∀ (A B : List Nd) (V : List Int), vaR f d v BS (A ++ B) V = vaR f d v BS B (vaR f d v BS A V)
  | [], B, V => rfl
  | n :: A, B, V => vaR_app f d v BS A B _
theorem vaR_len (f d : Int) (v : Wd) (BS : List Int) : ∀ (A : List Nd) (V : List Int), (vaR f d v BS A V).length = V.length + A.length
  | [], V => rfl
  | n :: A, V => by rw [vaR, vaR_len f d v BS A]; simp; omega
theorem vaR_snoc (f d : Int) (v : Wd) (BS : List Int) (A : List Nd) (n : Nd) (V : List Int) : vaR f d v BS (A ++ [n]) V = vaR f d v BS A V ++ [vaN f d v BS (vaR f d v BS A V) n] := by
  rw [vaR_app]; rfl
/-- All's error, and what Eval answers. -/
noncomputable def evE (f d : Int) (v : Wd) (NM : List Txt) (BS : List Int) (NS : List Nd) (root : Int) : Int := if ckE f d NM BS NS root = 0 then Knd.fitE f d v.x v.y v.c v.ps else ckE f d NM BS NS root
noncomputable def evV (f d : Int) (v : Wd) (NM : List Txt) (BS : List Int) (NS : List Nd) (root : Int) : Int := if evE f d v NM BS NS root = 0 then (vaR f d v BS NS []).getD root.toNat 0 else 0
theorem fitE_cases (f d : Int) (v : Wd) : (Fits f d v ∧ Knd.fitE f d v.x v.y v.c v.ps = 0) ∨ (¬ Fits f d v ∧ Knd.fitE f d v.x v.y v.c v.ps = 1) := by
  unfold Knd.fitE
  by_cases h : Fits f d v
  · exact .inl ⟨h, if_pos h⟩
  · exact .inr ⟨h, if_neg h⟩
theorem evE_zero {f d : Int} {v : Wd} {NM : List Txt} {BS : List Int} {NS : List Nd} {root : Int} : evE f d v NM BS NS root = 0 ↔ ckE f d NM BS NS root = 0 ∧ Fits f d v := by
  unfold evE
  constructor
  · intro h
    split at h
    · rename_i h1
      rcases fitE_cases f d v with ⟨h2, -⟩ | ⟨-, h2⟩
      · exact ⟨h1, h2⟩
      · omega
    · rename_i h1; exact absurd h h1
  · rintro ⟨h1, h2⟩
    rw [if_pos h1]
    rcases fitE_cases f d v with ⟨-, h3⟩ | ⟨h3, -⟩
    · exact h3
    · exact absurd h2 h3
theorem look_lt (L : List Knd.Plc) (p : Knd.Plc) : ∀ (k : Nat), k ≤ 64 → ∀ q, Knd.look L (Knd.upto k) p = some q → q < k
  | 0, _, q, h => by simp [Knd.upto, Knd.look] at h
  | k + 1, hk, q, h => by
    rw [Knd.upto_succ k (by omega), Knd.look_snoc] at h
    split at h
    · cases h; exact Nat.lt_succ_self k
    · have := look_lt L p k (by omega) q h; omega

end Go.Proofs.YtngnnijpdjhelaaGreat

/-
  eval's input, sample and made.
-/
namespace Go.Proofs.YtngnnijpdjhelaaGreat
open Go.RowKit Go.IntWalk Lx Pz
set_option linter.unusedVariables false

theorem four_of {W : World} {b : Nat} {t : TypeId} {x y z u : Value} (h : HasC W b t #[x, y, z, u]) : W.cell? ⟨b, 0, none⟩ = some x ∧ W.cell? ⟨b, 1, none⟩ = some y ∧ W.cell? ⟨b, 2, none⟩ = some z ∧ W.cell? ⟨b, 3, none⟩ = some u :=
  ⟨h.cell 0 rfl, h.cell 1 rfl, h.cell 2 rfl, h.cell 3 rfl⟩

set_option maxRecDepth 100000 in
set_option maxHeartbeats 4000000 in
theorem vinput_any (f d k : Int) (v : Wd) (a : Option Addr) (n cap : Nat) (W : World) :
    Calls Tryz.prog 49 #[.agg (kdA f d), .agg (wdA v a n cap), .int .i64 k] W fun e W' => e = .returned (.int .i64 (inpV f d v k)) ∧ Below W.heap.size W W' := by
  have HL := hide fun W => Knd.low_any f d W
  have HH := hide fun W => Knd.high_any f d W
  have HO := hide fun W => Knd.border_any f d W
  have HB := hide (bel (bel1 W (.cells (kdA f d) 23)) (bel1 (W.alloc (.cells (kdA f d) 23)) (.cells (wdA v a n cap) 45)))
  unfold inpV
  by_cases h0 : k = 0
  · subst h0
    rw [if_pos rfl]
    go_enter Tryz.func49, Tryz.ntmps49
    go_wp2_with fail
    go_ret
    exact ⟨rfl, HB.out⟩
  rw [if_neg h0]
  by_cases h1 : k = 1
  · subst h1
    rw [if_pos rfl]
    go_enter Tryz.func49, Tryz.ntmps49
    go_wp2_with fail
    go_ret
    exact ⟨rfl, HB.out⟩
  rw [if_neg h1]
  by_cases h2 : k = 2
  · subst h2
    rw [if_pos rfl]
    go_enter Tryz.func49, Tryz.ntmps49
    go_wp2_with fail
    go_ret
    exact ⟨rfl, HB.out⟩
  rw [if_neg h2]
  by_cases h3 : k = 3
  · subst h3
    rw [if_pos rfl]
    go_enter Tryz.func49, Tryz.ntmps49
    go_wp2_with fail
    refine (HL.out _).mono ?_
    rintro e V1 ⟨rfl, hb⟩
    go_wp2_with fail
    go_ret
    exact ⟨rfl, bel HB.out hb⟩
  rw [if_neg h3]
  by_cases h4 : k = 4
  · subst h4
    rw [if_pos rfl]
    go_enter Tryz.func49, Tryz.ntmps49
    go_wp2_with fail
    refine (HH.out _).mono ?_
    rintro e V1 ⟨rfl, hb⟩
    go_wp2_with fail
    go_ret
    exact ⟨rfl, bel HB.out hb⟩
  rw [if_neg h4]
  have q0 : (k == 0) = false := by simpa using h0
  have q1 : (k == 1) = false := by simpa using h1
  have q2 : (k == 2) = false := by simpa using h2
  have q3 : (k == 3) = false := by simpa using h3
  have q4 : (k == 4) = false := by simpa using h4
  clear h0 h1 h2 h3 h4
  go_enter Tryz.func49, Tryz.ntmps49
  go_wp2_with fail
  refine (HO.out _).mono ?_
  rintro e V1 ⟨rfl, hb⟩
  go_wp2_with fail
  go_ret
  exact ⟨rfl, bel HB.out hb⟩

set_option maxRecDepth 100000 in
set_option maxHeartbeats 4000000 in
theorem vsample_any (f d : Int) (nd : Nd) (v : Wd) {a : Option Addr} {n cap q : Nat} {W : World} (hP : Knd.Ints W a n cap v.ps) (hw : (plOf nd).wf) (hq : Knd.numZ f d (plOf nd) = some q) (hn : q < n) :
    Calls Tryz.prog 50 #[.agg (kdA f d), .agg (wdA v a n cap), .agg #[.int .i64 nd.back, .int .i64 nd.co, .int .i64 nd.x, .int .i64 nd.y]] W fun e W' => e = .returned (.int .i64 (smpV f d v nd)) ∧ Below W.heap.size W W' := by
  have HN := hide fun W => Knd.number_any f d (plOf nd) hw W
  unfold Knd.numV at HN
  unfold smpV
  rw [hq] at HN ⊢
  simp only [Option.getD_some, Option.isSome_some] at HN ⊢
  have hb1 := bel1 W (.cells (kdA f d) 23)
  have hb2 := bel hb1 (bel1 (W.alloc (.cells (kdA f d) 23)) (.cells (wdA v a n cap) 45))
  have hb3 := bel hb2 (bel1 ((W.alloc (.cells (kdA f d) 23)).alloc (.cells (wdA v a n cap) 45)) (.cells #[.int .i64 nd.back, .int .i64 nd.co, .int .i64 nd.x, .int .i64 nd.y] 63))
  have HB := hide hb3
  have HW0 : Hid (HasC (((W.alloc (.cells (kdA f d) 23)).alloc (.cells (wdA v a n cap) 45)).alloc (.cells #[.int .i64 nd.back, .int .i64 nd.co, .int .i64 nd.x, .int .i64 nd.y] 63)) (W.heap.size + 1) 45 (wdA v a n cap)) := by
    have := (HasC.new (W.alloc (.cells (kdA f d) 23)) 45 (wdA v a n cap)).alloc (.cells #[.int .i64 nd.back, .int .i64 nd.co, .int .i64 nd.x, .int .i64 nd.y] 63)
    simp only [World.size_alloc] at this
    exact hide this
  have HP := hide (hP.later hb3)
  clear hb1 hb2 hb3 hP hw hq
  have i0 : (0 : Int) ≤ q := by omega
  have i1 : (q : Int) < n := by omega
  obtain ⟨z, hz⟩ : ∃ z, v.ps.getD q 0 = z := ⟨_, rfl⟩
  rw [hz]
  go_enter Tryz.func50, Tryz.ntmps50
  go_wp2_with fail
  refine (HN.out _).mono ?_
  rintro e V1 ⟨rfl, hb⟩
  obtain ⟨x0, x1, x2, x3⟩ := four_of (HW0.out.below hb)
  obtain ⟨b, off, rfl, -, hc⟩ := (HP.out.later hb).at (by omega)
  have c0 := hc q hn
  rw [hz] at c0
  have HB2 := hide (bel HB.out hb)
  clear hc hb HB HP HW0 HN hz
  go_wp2_with fail
  go_ret
  exact ⟨rfl, HB2.out⟩

/-- A list of numbers in memory of the call's own. -/
structure Ls (w W : World) (v : Value) (L : List Int) : Prop where
  a : W.ownsRow w.heap.size 3 1 v L.length (in64 L)
  bel : Below w.heap.size w W
theorem Ls.alloc {w W : World} {v : Value} {L : List Int} (h : Ls w W v L) (o : Obj) : Ls w (W.alloc o) v L := ⟨h.a.alloc o, h.bel.alloc h.bel.size o⟩
theorem Ls.drew {w W : World} {v : Value} {L : List Int} (h : Ls w W v L) : Ls w W.drew v L := ⟨h.a.drew, h.bel.drew⟩
theorem Ls.start (W : World) : Ls W W (.slice none 0 0) [] := ⟨⟨rfl, .inl ⟨rfl, rfl⟩⟩, Below.refl _ _⟩
theorem Ls.later {w W W' : World} {v : Value} {L : List Int} (h : Ls w W v L) (hb : Below W.heap.size W W') : Ls w W' v L := by
  have hg : W.grownBy W' none := ⟨hb.os, hb.tape, hb.output, hb.size, fun k hk _ => hb.block k hk⟩
  refine ⟨h.a.kept hg ?_, h.bel.trans (hb.mono h.bel.size)⟩
  cases hv : v.ownBlock with
  | none => exact .inl rfl
  | some q => exact .inr (by simp)
theorem list_ls {w W : World} {v : Value} {L : List Int} {ops : Array Oper} {rest : List Oper} {o : Oper} {a : Act} {Q : Exit → Act → World → Prop}
    (hgd : o.guard = none) (s x : Operand) (ho : o.op = .call { callee := .builtin .append, args := #[s, x], argTypes := #[25, 25] })
    (hs : a.eval s = v) (hen : Ls w W v L) (b : Nat) (p : Int) (hx : a.eval x = .slice (some ⟨b, 0, none⟩) 1 1) (hc : HasC W b 3 #[.int .i64 p]) (h3 : L.length ≤ 2000000)
    (h : ∀ g cap w', Ls w w' (.slice (some ⟨g, 0, none⟩) (L.length + 1) cap) (L ++ [p]) → wpList Tryz.prog ops Q rest (a.put o.dst (.slice (some ⟨g, 0, none⟩) (L.length + 1) cap)) w') :
    wpList Tryz.prog ops Q (o :: rest) a W :=
  list_in hgd s x ho hs hen.a hen.bel.size b p hx hc h3 fun g cap w' h1 h2 h4 => h g cap w' ⟨h1, h4 w hen.bel rfl⟩

theorem op_args {V : List Int} {n : Nd} {k : Nat} (hk : k < (prts n).length) : ((prts n).map fun p => V.getD p.toNat 0).take (k + 1) = ((prts n).map fun p => V.getD p.toNat 0).take k ++ [V.getD ((prts n).getD k 0).toNat 0] := by
  rw [take_snoc 0 (by simpa using hk)]
  congr 2
  simp [List.getD_eq_getElem?_getD, List.getElem?_map, List.getElem?_eq_getElem hk]

set_option maxRecDepth 100000 in
set_option maxHeartbeats 4000000 in
theorem vmade_any (n : Nd) {BS : List Int} {i sl sc : Nat} {a : Option Addr} {V : List Int} {W : World} (hn : Wn BS i n) (h5 : 5 ≤ n.op) (hS : Iz W a sl sc V) (hi : i ≤ sl) :
    Calls Tryz.prog 51 #[.agg (ndA n), .slice a sl sc] W fun e W' => e = .returned (.int .i64 (opV V n)) ∧ Below W.heap.size W W' := by
  obtain ⟨k, hk⟩ : ∃ k : Nat, prZ n.op = k := ⟨(prZ n.op).toNat, by have := hn.pr; omega⟩
  have h3 : k ≤ 3 := by
    have : prZ n.op ≤ 3 := by unfold prZ arZ; repeat' split <;> omega
    omega
  have har : arZ n.op = k := by rw [hn.ar (by omega), hk]
  have hsl : sl ≤ 9223372036854775807 := by have := hS.le; have := hS.max; unfold maxLen at *; omega
  unfold opV
  have HPt := hide fun j hj => prts_at (n := n) (j := j) hk h3 hj
  have HPl := hide (prts_len hk h3)
  have HPr := hide hn.prt
  have HSg := hide fun j hj => op_args (V := V) (n := n) (k := j) hj
  obtain ⟨L, hL⟩ : ∃ L, ((prts n).map fun p => V.getD p.toNat 0) = L := ⟨_, rfl⟩
  have HLl : Hid (L.length = k) := hide (by rw [← hL, List.length_map, HPl.out])
  rw [hL] at HSg ⊢
  have HA := hide fun W => arity_any n.op W
  rw [har] at HA
  have HB := hide (bel1 W (.cells (ndA n) 65))
  have HN0 := hide (HasC.new W 65 (ndA n))
  obtain ⟨f0, f1, f2, f3, f4, f5, f6, f7, f8⟩ := (HasC.new W 65 (ndA n)).nine
  have hz : W.heap.size < (W.alloc (.cells (ndA n) 65)).heap.size := by simp
  have HS0 := hide (hS.later HB.out)
  clear hS hL har hk hn h5
  have hk0 : (0 : Int) ≤ k := by omega
  have hk1 : (k : Int) ≤ 3 := by omega
  go_enter Tryz.func51, Tryz.ntmps51
  go_wp2_with fail
  go_region_held3 (fun w' => w'.cell? ⟨W.heap.size, 0, none⟩ = some (.int .i64 n.op) ∧ w'.cell? ⟨W.heap.size, 1, none⟩ = some (.int .i64 n.a) ∧ w'.cell? ⟨W.heap.size, 2, none⟩ = some (.int .i64 n.b) ∧ w'.cell? ⟨W.heap.size, 3, none⟩ = some (.int .i64 n.c))
    (first | exact ⟨f0, f1, f2, f3⟩ | go_keep)
    ((first
      | (go_at_call 40; refine (HA.out _).mono ?_; rintro e w2 ⟨rfl, rfl⟩)))
  all_goals
    have h5 := HasC.new (W.alloc (.cells (ndA n) 65)) 3 (ab3 n)
    rw [World.size_alloc] at h5
    have hb5 := (bel1 (W.alloc (.cells (ndA n) 65)) (.cells (ab3 n) 3)).drew
    have HG := hide (h5.below (below_drew _))
    have HN1 := hide (HN0.out.below hb5)
    have HB1 := hide (bel HB.out hb5)
    have HS1 := hide (HS0.out.later hb5)
    clear h5 hb5 HB HN0 HS0 f0 f1 f2 f3 f4 f5 f6 f7 f8
    go_wp2_with fail
    obtain ⟨V1, hV1⟩ : ∃ V1, ((W.alloc (.cells (ndA n) 65)).alloc (.cells (ab3 n) 3)).drew = V1 := ⟨_, rfl⟩
    rw [hV1] at HG HN1 HB1 HS1 ⊢
    have hgl := HG.out.lt
    clear hV1 HA
    go_loopw [5, 22] (fun v i wr => ∃ j : Nat, j ≤ k ∧ i = .int .i64 j ∧ Hid (Ls V1 wr v (L.take j))) (fun _ i _ => k - (intOf i).toNat)
    case atStart => exact ⟨0, Nat.zero_le _, rfl, hide (Ls.start V1)⟩
    case round =>
      obtain ⟨j, hj, rfl, HE⟩ := hrel
      rename World => V2
      by_cases hlt : j < k
      · have cp := (HG.out.below HE.out.bel).cell j (HPt.out j hlt).1
        obtain ⟨p0, p1⟩ := HPr.out _ (HPt.out j hlt).2
        have HT := hide (HSg.out j (by rw [HPl.out]; exact hlt))
        obtain ⟨q, hq⟩ : ∃ q : Nat, (prts n).getD j 0 = (q : Int) := ⟨((prts n).getD j 0).toNat, by omega⟩
        rw [hq] at cp p1 HT
        simp only [Int.toNat_natCast] at p1 HT
        obtain ⟨b, off, rfl, hcq⟩ : ∃ b off, a = some ⟨b, off, none⟩ ∧ V2.cell? ⟨b, off + q, none⟩ = some (.int .i64 (V.getD q 0)) := by
          rcases (HS1.out.later HE.out.bel).cell with h0 | ⟨b, off, ha, hlb, hc⟩
          · omega
          · exact ⟨b, off, ha, hc q (by omega)⟩
        generalize V.getD q 0 = sv at *
        have j0 : (0 : Int) ≤ j := by omega
        have j1 : (j : Int) < k := by omega
        have j2 : (j : Int) < 3 := by omega
        have i0 : (0 : Int) ≤ q := by omega
        have i1 : (q : Int) < sl := by omega
        have HJ : Hid ((L.take j).length = j) := hide (by rw [List.length_take, HLl.out]; omega)
        clear p0 p1 hq
        go_wp2_with (at_builtin; refine list_ls (w := V1) (L := L.take j) rfl _ _ rfl rfl (HE.out.alloc _) _ sv rfl (HasC.new _ _ _) (by rw [HJ.out]; omega) ?_; intro g2 cap2 w2 HE2; rw [HJ.out] at HE2 ⊢)
        go_roundw
        case rel => exact ⟨j + 1, by omega, by go_num, hide (by rw [HT.out]; exact HE2)⟩
        case measure => simp [intOf]; omega
      · obtain rfl : j = k := by omega
        have e : L.take j = L := List.take_of_length_le (by rw [HLl.out]; exact Nat.le_refl _)
        have HE1 := HE.out
        rw [e] at HE1
        obtain ⟨va, vc, rfl, hA, -⟩ := Spn.Ints.of_owns HE1.a
        have hLl := HLl.out
        rw [hLl] at hA ⊢
        have HOf := hide (Spn.value_any n.op 0 0 _ _ _ _ _ hA)
        have HB2 := hide (bel HB1.out HE1.bel)
        have x0 := (HN1.out.below HE1.bel).cell 0 rfl
        obtain ⟨⟨vv, er⟩, hZ⟩ : ∃ Z, Spn.valZ n.op 0 0 L = Z := ⟨_, rfl⟩
        rw [hZ] at HOf
        have HZ := hide hZ
        clear hZ hA e HE HE1 hLl
        go_wp2_with fail
        refine HOf.out.mono ?_
        rintro e V3 ⟨rfl, hb⟩
        have HB3 := hide (bel HB2.out hb)
        clear hb
        go_wp2_with fail
        go_ret
        exact ⟨by rw [HZ.out]; rfl, HB3.out⟩

end Go.Proofs.YtngnnijpdjhelaaGreat

/-
  eval.All: what each node comes to.
-/
namespace Go.Proofs.YtngnnijpdjhelaaGreat
open Go.RowKit Go.IntWalk Lx Pz
set_option linter.unusedVariables false

/-- All's boxes, and the list that it fills. -/
structure Bx (W V : World) (g : Nat) (kd tr wd : Array Value) (D : List Int) : Prop where
  k : HasC V W.heap.size 23 kd
  t : HasC V (W.heap.size + 1) 28 tr
  w : HasC V (W.heap.size + 1 + 1) 45 wd
  c : HasC V g 3 (inA D)
  hg : W.heap.size + 1 + 1 < g
  lo : Below W.heap.size W V
theorem Bx.below {W V V' : World} {g : Nat} {kd tr wd : Array Value} {D : List Int} (h : Bx W V g kd tr wd D) (hb : Below V.heap.size V V') : Bx W V' g kd tr wd D :=
  ⟨h.k.below hb, h.t.below hb, h.w.below hb, h.c.below hb, h.hg, bel h.lo hb⟩
theorem Bx.put {W V : World} {g i : Nat} {kd tr wd : Array Value} {D Z : List Int} {q : Int} (h : Bx W V g kd tr wd (D ++ q :: Z)) (hk : D.length = i) (x : Int) : Bx W (V.setCell ⟨g, i, none⟩ (.int .i64 x)) g kd tr wd (D ++ x :: Z) := by
  have hg := h.hg
  exact ⟨h.k.other (p := ⟨g, i, none⟩) (by simp; omega) _, h.t.other (p := ⟨g, i, none⟩) (by simp; omega) _, h.w.other (p := ⟨g, i, none⟩) (by simp; omega) _, put_in h.c hk x, hg, h.lo.setCell (p := ⟨g, i, none⟩) (by simp; omega) _⟩

/-- What All answers. -/
def AlP (w : World) (f d : Int) (v : Wd) (NM : List Txt) (BS : List Int) (NS : List Nd) (root : Int) (e : Ending) (W' : World) : Prop :=
  (evE f d v NM BS NS root ≠ 0 ∧ e = .returned (.tuple #[.slice none 0 0, .int .i64 (evE f d v NM BS NS root)]) ∧ Below w.heap.size w W') ∨
  (evE f d v NM BS NS root = 0 ∧ ∃ g, e = .returned (.tuple #[.slice (some ⟨g, 0, none⟩) NS.length NS.length, .int .i64 0]) ∧ w.heap.size ≤ g ∧ HasC W' g 3 (inA (vaR f d v BS NS [])) ∧ Below w.heap.size w W')

theorem num_lt {f d : Int} {v : Wd} {p : Knd.Plc} (hF : Fits f d v) {q : Nat} (hq : Knd.numZ f d p = some q) : q < v.ps.length := by
  have h1 := Knd.blks_bound f d
  have h2 := look_lt _ _ _ (by omega) q hq
  have h3 := Knd.plcs_len f d
  have h4 := hF.2.1
  omega
theorem ck_num {f d : Int} {NM : List Txt} {BS : List Int} {NS : List Nd} {root : Int} (h : ckE f d NM BS NS root = 0) {n : Nd} (hn : n ∈ NS) (h3 : n.op = 3) : ∃ q, Knd.numZ f d (plOf n) = some q := by
  unfold ckE at h
  split at h
  · cases h
  split at h
  · cases h
  split at h
  · cases h
  rename_i h1
  cases hq : Knd.numZ f d (plOf n) with
  | some q => exact ⟨q, rfl⟩
  | none =>
    exfalso
    apply h1
    rw [List.any_eq_true]
    exact ⟨n, hn, by unfold ahB; rw [hq, h3]; rfl⟩
theorem ck_sound {f d : Int} {NM : List Txt} {BS : List Int} {NS : List Nd} {root : Int} (h : ckE f d NM BS NS root = 0) : chkP NM BS NS root = true := by
  unfold ckE at h
  split at h
  · cases h
  split at h
  · cases h
  · rename_i h1; simpa using h1
theorem getN_mem {NS : List Nd} {i : Nat} (h : i < NS.length) : NS.getD i n0 ∈ NS := by
  rw [List.getD_eq_getElem?_getD, List.getElem?_eq_getElem h]; exact List.getElem_mem h

theorem opV_pre {BS D Z : List Int} {n : Nd} (hn : Wn BS D.length n) : opV (D ++ Z) n = opV D n := by
  unfold opV
  congr 2
  apply List.map_congr_left
  intro p hp
  exact getI_pre (hn.prt p hp).2

set_option maxRecDepth 100000 in
set_option maxHeartbeats 8000000 in
theorem vall_any (f d : Int) (v : Wd) {W : World} {na ba da pa : Option Addr} {nl nc bl bc dl dc pl pc : Nat} {root : Int} {NM : List Txt} {BS : List Int} {NS : List Nd} (hX : Tx W na nl nc NM) (hB : Iz W ba bl bc BS) (hN : Nz W da dl dc NS) (hs : ∀ s ∈ NM, s.length ≤ 9223372036854775807) (hP : Knd.Ints W pa pl pc v.ps) :
    Calls Tryz.prog 21 #[.agg (kdA f d), .agg (tr4 (.slice na nl nc) (.slice ba bl bc) (.slice da dl dc) (.int .i64 root)), .agg (wdA v pa pl pc)] W (AlP W f d v NM BS NS root) := by
  have hb1 := bel1 W (.cells (kdA f d) 23)
  have hb2 := bel hb1 (bel1 (W.alloc (.cells (kdA f d) 23)) (.cells (tr4 (.slice na nl nc) (.slice ba bl bc) (.slice da dl dc) (.int .i64 root)) 28))
  have hb3 := bel hb2 (bel1 ((W.alloc (.cells (kdA f d) 23)).alloc (.cells (tr4 (.slice na nl nc) (.slice ba bl bc) (.slice da dl dc) (.int .i64 root)) 28)) (.cells (wdA v pa pl pc) 45))
  have HK0 := hide (((HasC.new W 23 (kdA f d)).alloc (.cells (tr4 (.slice na nl nc) (.slice ba bl bc) (.slice da dl dc) (.int .i64 root)) 28)).alloc (.cells (wdA v pa pl pc) 45))
  have HT0 : Hid (HasC (((W.alloc (.cells (kdA f d) 23)).alloc (.cells (tr4 (.slice na nl nc) (.slice ba bl bc) (.slice da dl dc) (.int .i64 root)) 28)).alloc (.cells (wdA v pa pl pc) 45)) (W.heap.size + 1) 28 (tr4 (.slice na nl nc) (.slice ba bl bc) (.slice da dl dc) (.int .i64 root))) := by
    have := (HasC.new (W.alloc (.cells (kdA f d) 23)) 28 (tr4 (.slice na nl nc) (.slice ba bl bc) (.slice da dl dc) (.int .i64 root))).alloc (.cells (wdA v pa pl pc) 45)
    simp only [World.size_alloc] at this
    exact hide this
  have HW0 : Hid (HasC (((W.alloc (.cells (kdA f d) 23)).alloc (.cells (tr4 (.slice na nl nc) (.slice ba bl bc) (.slice da dl dc) (.int .i64 root)) 28)).alloc (.cells (wdA v pa pl pc) 45)) (W.heap.size + 1 + 1) 45 (wdA v pa pl pc)) := by
    have := HasC.new ((W.alloc (.cells (kdA f d) 23)).alloc (.cells (tr4 (.slice na nl nc) (.slice ba bl bc) (.slice da dl dc) (.int .i64 root)) 28)) 45 (wdA v pa pl pc)
    simp only [World.size_alloc] at this
    exact hide this
  have HB0 := hide hb3
  have HCk := hide (ccheck_any f d (root := root) (hX.later hb3) (hB.later hb3) (hN.later hb3) hs)
  have HBI := hide hB
  have HNI := hide hN
  have HPI := hide hP
  have HLN := hide hN.len
  have HLB := hide hB.len
  have HLP := hide hP.len
  clear hb1 hb2 hb3 hX hB hN hP
  go_enter Tryz.func21, Tryz.ntmps21
  go_wp2_with fail
  refine HCk.out.mono ?_
  rintro e V1 (⟨he, rfl, hb⟩ | ⟨he, g, rfl, -, -, hb⟩)
  · obtain ⟨er, hZ⟩ : ∃ er, ckE f d NM BS NS root = er := ⟨_, rfl⟩
    have hev : evE f d v NM BS NS root = er := by unfold evE; rw [if_neg he, hZ]
    rw [hZ] at he ⊢
    have HE := hide he
    have HV := hide hev
    have h1 : (er != 0) = true := by simpa using he
    have HB1 := hide (bel HB0.out hb)
    clear he hev hZ hb HB0 HCk HK0 HT0 HW0
    go_wp2_with fail
    exact bodyPost_ret (v := .tuple #[.slice none 0 0, .int .i64 er]) (by simp [results, Tryz.results21, go_sem]) rfl (.inl (by rw [HV.out]; exact ⟨HE.out, rfl, bel HB1.out (bel1 _ _)⟩))
  · have HE := hide he
    have HB1 := hide (bel (bel HB0.out hb) (bel1 V1 (.cells #[.slice (some ⟨g, 0, none⟩) NS.length NS.length, .int .i64 (coR NS), .int .i64 (mxR (dpR BS NS []))] 50)))
    have HK1 := hide ((HK0.out.below hb).alloc (.cells #[.slice (some ⟨g, 0, none⟩) NS.length NS.length, .int .i64 (coR NS), .int .i64 (mxR (dpR BS NS []))] 50))
    have HT1 := hide ((HT0.out.below hb).alloc (.cells #[.slice (some ⟨g, 0, none⟩) NS.length NS.length, .int .i64 (coR NS), .int .i64 (mxR (dpR BS NS []))] 50))
    have HW1 := hide ((HW0.out.below hb).alloc (.cells #[.slice (some ⟨g, 0, none⟩) NS.length NS.length, .int .i64 (coR NS), .int .i64 (mxR (dpR BS NS []))] 50))
    have HF := hide fun w h => Knd.fits_any f d v.x v.y v.c pa pl pc v.ps w h
    obtain ⟨k0, k1, -, -⟩ := two_of (HK0.out.below hb)
    obtain ⟨w0, w1, w2, w3⟩ := four_of (HW0.out.below hb)
    have hz1 := (HW0.out.below hb).lt
    have hz0 := (HK0.out.below hb).lt
    clear hb he HB0 HCk HK0 HT0 HW0
    generalize coR NS = co at *
    generalize mxR (dpR BS NS []) = mx at *
    go_wp2_with fail
    refine (HF.out _ (HPI.out.later HB1.out)).mono ?_
    rintro e V2 ⟨rfl, hb⟩
    have HK2 := hide (HK1.out.below hb)
    have HT2 := hide (HT1.out.below hb)
    have HW2 := hide (HW1.out.below hb)
    have HB2 := hide (bel HB1.out hb)
    clear hb HK1 HT1 HW1 HB1 HF k0 k1 w0 w1 w2 w3 hz1 hz0
    have hev : evE f d v NM BS NS root = Knd.fitE f d v.x v.y v.c v.ps := by unfold evE; rw [if_pos HE.out]
    have HV := hide hev
    clear hev
    rcases fitE_cases f d v with ⟨hF, h0⟩ | ⟨hF, h1⟩
    · rw [h0]
      rw [h0] at HV
      obtain ⟨es, ex, hD⟩ := chk_dec.1 (ck_sound HE.out)
      have HW := hide hD.wl
      have hfew := hD.few
      rw [HLN.out] at hfew
      have hmk := make_in dl hfew
      have HNm := hide fun (n : Nd) hn h3 => ck_num HE.out (n := n) hn h3
      have HNl := hide fun (p : Knd.Plc) q hq => num_lt hF (p := p) (q := q) hq
      clear hD h0 hF HE
      obtain ⟨t0, t1, t2, t3⟩ := four_of HT2.out
      have hzt := HT2.out.lt
      have hzw := HW2.out.lt
      have HBx : Hid (Bx W (V2.alloc (.cells (inA (List.replicate dl 0)) 3)) V2.heap.size (kdA f d) (tr4 (.slice na nl nc) (.slice ba bl bc) (.slice da dl dc) (.int .i64 root)) (wdA v pa pl pc) (List.replicate dl 0)) :=
        ⟨HK2.out.alloc _, HT2.out.alloc _, HW2.out.alloc _, HasC.new _ _ _, hzw, bel HB2.out (bel1 _ _)⟩
      have hgz := HBx.out.hg
      clear HK2 HT2 HW2 HB2
      go_wp2_with fail
      generalize V2.heap.size = gv at *
      go_loopw [36] (fun i wr => ∃ (k : Nat) (D : List Int), k ≤ dl ∧ i = .int .i64 k ∧ Hid (vaR f d v BS (NS.take k) [] = D) ∧ Hid (Bx W wr gv (kdA f d) (tr4 (.slice na nl nc) (.slice ba bl bc) (.slice da dl dc) (.int .i64 root)) (wdA v pa pl pc) (D ++ List.replicate (dl - k) 0))) (fun i _ => dl - (intOf i).toNat)
      case atStart => exact ⟨0, [], Nat.zero_le _, rfl, hide rfl, HBx⟩
      case round =>
        obtain ⟨k, D, hk, rfl, HD, HX⟩ := hrel
        rename World => V
        clear t0 t1 t2 t3 hmk
        by_cases hlt : k < dl
        · obtain ⟨g, off, rfl, hat⟩ := (HNI.out.later HX.out.lo).at (by omega)
          obtain ⟨e0, e1, e2, e3, e4, e5, e6, e7, e8⟩ := hat k hlt
          clear hat
          have hi0 : (0 : Int) ≤ k := by omega
          have hi1 : (k : Int) < dl := by omega
          have hDl : D.length = k := by rw [← HD.out, vaR_len]; simp; rw [HLN.out]; omega
          have HDl := hide hDl
          have HWn := hide (wl_at HW.out (by rw [HLN.out]; exact hlt : k < NS.length))
          rw [Nat.zero_add] at HWn
          have HD2 := hide (vaR_snoc f d v BS (NS.take k) (NS.getD k n0) [])
          rw [← take_snoc n0 (by rw [HLN.out]; exact hlt), HD.out] at HD2
          have hmem := getN_mem (NS := NS) (i := k) (by rw [HLN.out]; exact hlt)
          rw [repI_succ hlt] at HX
          have hz1 : gv < V.heap.size := HX.out.c.lt
          have y0 := HX.out.c.frozen k
          have da := HX.out.c.cell k (inA_get _ k (by simp; omega))
          have HNk := hide (HNm.out _ hmem)
          clear hmem
          generalize NS.getD k n0 = n at *
          by_cases ho1 : n.op = 1
          · have q1 : (n.op == 1) = true := by simpa using ho1
            have hva : vaN f d v BS D n = n.k := by unfold vaN; rw [if_neg (by omega), if_pos ho1]
            rw [hva] at HD2
            have HX2 := hide ((HX.out.put hDl n.k).below (bel1 _ (.cells (ndA n) 65)))
            clear hva ho1 HNk HWn hDl
            go_wp2_with fail
            go_roundw
            case rel => exact ⟨k + 1, D ++ [n.k], by omega, by go_num, hide HD2.out, hide (by rw [List.append_assoc]; exact HX2.out)⟩
            case measure => simp [intOf]; omega
          have q1 : (n.op == 1) = false := by simpa using ho1
          by_cases ho2 : n.op = 2
          · have q2 : (n.op == 2) = true := by simpa using ho2
            have hva : vaN f d v BS D n = inpV f d v n.k := by unfold vaN; rw [if_neg (by omega), if_neg ho1, if_pos ho2]
            rw [hva] at HD2
            have HI := hide fun w => vinput_any f d n.k v pa pl pc w
            generalize inpV f d v n.k = z at *
            have HX1 := hide (HX.out.below (bel1 V (.cells (ndA n) 65)))
            obtain ⟨k0, k1, -, -⟩ := two_of HX.out.k
            obtain ⟨w0, w1, w2, w3⟩ := four_of HX.out.w
            have hz2 := HX.out.k.lt
            have hz3 := HX.out.w.lt
            clear hva ho1 ho2 HNk HWn hDl y0 da
            go_wp2_with fail
            refine (HI.out _).mono ?_
            rintro e V3 ⟨rfl, hb⟩
            have HX3 := hide (HX1.out.below hb)
            have y0 := HX3.out.c.frozen k
            have da := HX3.out.c.cell k (inA_get _ k (by have := HDl.out; simp; omega))
            have HX2 := hide (HX3.out.put HDl.out z)
            clear hb HX1 HI k0 k1 w0 w1 w2 w3 hz2 hz3 e0 e1 e2 e3 e4 e5 e6 e7 e8
            go_wp2_with fail
            go_roundw
            case rel => exact ⟨k + 1, D ++ [z], by omega, by go_num, hide HD2.out, hide (by rw [List.append_assoc]; exact HX2.out)⟩
            case measure => simp [intOf]; omega
          have q2 : (n.op == 2) = false := by simpa using ho2
          by_cases ho3 : n.op = 3
          · have q3 : (n.op == 3) = true := by simpa using ho3
            have hva : vaN f d v BS D n = smpV f d v n := by unfold vaN; rw [if_neg (by omega), if_neg ho1, if_neg ho2, if_pos ho3]
            rw [hva] at HD2
            obtain ⟨q, hq⟩ := HNk.out ho3
            have hql := HNl.out _ q hq
            have HI := hide (vsample_any f d n v (q := q) ((HPI.out.later HX.out.lo).later (bel1 V (.cells (ndA n) 65))) HWn.out.wf hq (by rw [← HLP.out]; exact hql))
            generalize smpV f d v n = z at *
            have HX1 := hide (HX.out.below (bel1 V (.cells (ndA n) 65)))
            obtain ⟨k0, k1, -, -⟩ := two_of HX.out.k
            obtain ⟨w0, w1, w2, w3⟩ := four_of HX.out.w
            have hz2 := HX.out.k.lt
            have hz3 := HX.out.w.lt
            clear hva ho1 ho2 ho3 HNk HWn hDl y0 da hq hql
            go_wp2_with fail
            refine HI.out.mono ?_
            rintro e V3 ⟨rfl, hb⟩
            have HX3 := hide (HX1.out.below hb)
            have y0 := HX3.out.c.frozen k
            have da := HX3.out.c.cell k (inA_get _ k (by have := HDl.out; simp; omega))
            have HX2 := hide (HX3.out.put HDl.out z)
            clear hb HX1 HI k0 k1 w0 w1 w2 w3 hz2 hz3 e0 e1 e2 e3 e4 e5 e6 e7 e8
            go_wp2_with fail
            go_roundw
            case rel => exact ⟨k + 1, D ++ [z], by omega, by go_num, hide HD2.out, hide (by rw [List.append_assoc]; exact HX2.out)⟩
            case measure => simp [intOf]; omega
          have q3 : (n.op == 3) = false := by simpa using ho3
          by_cases ho4 : n.op = 4
          · have q4 : (n.op == 4) = true := by simpa using ho4
            have hva : vaN f d v BS D n = D.getD (BS.getD n.k.toNat 0).toNat 0 := by unfold vaN; rw [if_pos ho4]
            rw [hva] at HD2
            obtain ⟨u0, u1, u2, u3⟩ := HWn.out.use ho4
            obtain ⟨kk, hkk⟩ : ∃ kk : Nat, n.k = (kk : Int) := ⟨n.k.toNat, by omega⟩
            rw [hkk] at e4 u1 u2 u3 HD2
            simp only [Int.toNat_natCast] at u1 u2 u3 HD2
            obtain ⟨bb, boff, rfl, hbb, hbc⟩ : ∃ b off, ba = some ⟨b, off, none⟩ ∧ b < V.heap.size ∧ V.cell? ⟨b, off + kk, none⟩ = some (.int .i64 (BS.getD kk 0)) := by
              rcases (HBI.out.later HX.out.lo).cell with h0 | ⟨b, off, ha, hlb, hc⟩
              · rw [HLB.out] at u1; omega
              · exact ⟨b, off, ha, hlb, hc kk (by rw [← HLB.out]; exact u1)⟩
            obtain ⟨q, hq⟩ : ∃ q : Nat, BS.getD kk 0 = (q : Int) := ⟨(BS.getD kk 0).toNat, by omega⟩
            rw [hq] at hbc u3 HD2
            simp only [Int.toNat_natCast] at u3 HD2
            have s0 := inA_get (D ++ 0 :: List.replicate (dl - (k + 1)) 0) q (by simp; omega)
            rw [getI_pre (by rw [hDl]; exact u3)] at s0
            have d0 := HX.out.c.cell q s0
            generalize D.getD q 0 = z at *
            have HX2 := hide ((HX.out.put hDl z).below (bel1 _ (.cells #[.int .i64 n.op, .int .i64 n.a, .int .i64 n.b, .int .i64 n.c, .int .i64 kk, .int .i64 n.back, .int .i64 n.co, .int .i64 n.x, .int .i64 n.y] 65)))
            have t1 := HX.out.t.cell 1 rfl
            have hz2 := HX.out.t.lt
            have w0 : (kk : Int) < bl := by have := HLB.out; omega
            have w1 : (q : Int) < dl := by omega
            have w2 : (0 : Int) ≤ kk := by omega
            have w3 : (0 : Int) ≤ q := by omega
            clear s0 hq u0 u1 u2 u3 hva HNk HWn hDl ho1 ho2 ho3 ho4
            go_wp2_with fail
            go_roundw
            case rel => exact ⟨k + 1, D ++ [z], by omega, by go_num, hide HD2.out, hide (by rw [List.append_assoc]; exact HX2.out)⟩
            case measure => simp [intOf]; omega
          have q4 : (n.op == 4) = false := by simpa using ho4
          have hva : vaN f d v BS D n = opV D n := by unfold vaN; rw [if_neg ho4, if_neg ho1, if_neg ho2, if_neg ho3]
          rw [hva] at HD2
          have HX1 := hide (HX.out.below (bel1 V (.cells (ndA n) 65)))
          have hlen : (D ++ 0 :: List.replicate (dl - (k + 1)) 0).length = dl := by simp; omega
          have HZ := has_iz HX1.out.c (by rw [hlen]; exact hfew)
          rw [hlen] at HZ
          have HI := hide (vmade_any n HWn.out (by have := HWn.out.lo; omega) HZ (by omega))
          rw [opV_pre (by rw [hDl]; exact HWn.out)] at HI
          generalize opV D n = z at *
          clear HZ hlen hva ho1 ho2 ho3 ho4 HNk HWn hDl y0 da
          go_wp2_with fail
          refine HI.out.mono ?_
          rintro e V3 ⟨rfl, hb⟩
          have HX3 := hide (HX1.out.below hb)
          have y0 := HX3.out.c.frozen k
          have da := HX3.out.c.cell k (inA_get _ k (by have := HDl.out; simp; omega))
          have HX2 := hide (HX3.out.put HDl.out z)
          clear hb HX1 HI e0 e1 e2 e3 e4 e5 e6 e7 e8
          go_wp2_with fail
          go_roundw
          case rel => exact ⟨k + 1, D ++ [z], by omega, by go_num, hide HD2.out, hide (by rw [List.append_assoc]; exact HX2.out)⟩
          case measure => simp [intOf]; omega
        · obtain rfl : k = dl := by omega
          have e1 : NS.take k = NS := List.take_of_length_le (by rw [HLN.out]; exact Nat.le_refl _)
          have hD := HD.out
          rw [e1] at hD
          have HX2 := HX.out
          rw [Nat.sub_self, List.replicate_zero, List.append_nil] at HX2
          have HR := hide hD
          clear hD e1
          go_wp2_with fail
          exact bodyPost_ret (v := .tuple #[.slice (some ⟨gv, 0, none⟩) k k, .int .i64 0]) (by simp [results, Tryz.results21, go_sem]) rfl (.inr ⟨HV.out, gv, by rw [HLN.out], by omega, by rw [HR.out]; exact HX2.c, HX2.lo⟩)
    · rw [h1]
      rw [h1] at HV
      clear h1 hF HE
      go_wp2_with fail
      exact bodyPost_ret (v := .tuple #[.slice none 0 0, .int .i64 1]) (by simp [results, Tryz.results21, go_sem]) rfl (.inl (by rw [HV.out]; exact ⟨by decide, rfl, HB2.out⟩))

end Go.Proofs.YtngnnijpdjhelaaGreat
