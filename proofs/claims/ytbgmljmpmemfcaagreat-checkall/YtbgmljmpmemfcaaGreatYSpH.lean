/-
 What the operators and the spans have to do with each other: facts on whole numbers.
-/
import Derived.Test.YtbgmljmpmemfcaaGreatYSpOfS
import Derived.Test.YtbgmljmpmemfcaaGreatYSpB
namespace Go.Proofs.YtbgmljmpmemfcaaGreat.Spn
open Go.RowKit Go.IntWalk
set_option linter.unusedVariables false

/-- q lies between p and r, whichever is less. -/
def bet (p q r : Int) : Prop := (p ≤ q ∧ q ≤ r) ∨ (r ≤ q ∧ q ≤ p)

def fnE (E : Int × Int) : Int × Int := if E.2 = 0 then (if wd E.1 = true then (E.1, 0) else (0, 13)) else (0, E.2)
theorem val_fnE {op k s : Int} {xs : List Int} (h : mayB op k s xs = true) : valZ op k s xs = fnE (ex op k s (xs.getD 0 0) (xs.getD 1 0) (xs.getD 2 0)) := by
 unfold valZ fnE
 rw [if_pos h]
theorem fnE_ok {E : Int × Int} (h : (fnE E).2 = 0) : E.2 = 0 ∧ wd E.1 = true ∧ (fnE E).1 = E.1 := by
 unfold fnE at *
 by_cases h1 : E.2 = 0
 ·rw [if_pos h1] at *
  by_cases h2 : wd E.1 = true
  ·rw [if_pos h2] at *; exact ⟨h1, h2, rfl⟩
  ·rw [if_neg h2] at h; simp at h
 ·rw [if_neg h1] at *; exact absurd h h1
theorem fnE_mk {E : Int × Int} (h1 : E.2 = 0) (h2 : wd E.1 = true) : fnE E = (E.1, 0) := by
 unfold fnE; rw [if_pos h1, if_pos h2]
theorem may1 {op k s x : Int} (ho : ar op = 1) (hc : cons op k s = true) (hx : W32 x) : mayB op k s [x] = true := by
 simp [mayB, ho, hc, wd_iff]; exact hx
theorem may2 {op k s x y : Int} (ho : ar op = 2) (hc : cons op k s = true) (hx : W32 x) (hy : W32 y) : mayB op k s [x, y] = true := by
 simp [mayB, ho, hc, wd_iff]; exact ⟨hx, hy⟩
theorem may3 {op k s x y z : Int} (ho : ar op = 3) (hc : cons op k s = true) (hx : W32 x) (hy : W32 y) (hz : W32 z) : mayB op k s [x, y, z] = true := by
 simp [mayB, ho, hc, wd_iff]; exact ⟨hx, hy, hz⟩
theorem val1 {op k s x : Int} (ho : ar op = 1) (hc : cons op k s = true) (hx : W32 x) : valZ op k s [x] = fnE (ex op k s x 0 0) := val_fnE (may1 ho hc hx)
theorem val2 {op k s x y : Int} (ho : ar op = 2) (hc : cons op k s = true) (hx : W32 x) (hy : W32 y) : valZ op k s [x, y] = fnE (ex op k s x y 0) := val_fnE (may2 ho hc hx hy)
theorem val3 {op k s x y z : Int} (ho : ar op = 3) (hc : cons op k s = true) (hx : W32 x) (hy : W32 y) (hz : W32 z) : valZ op k s [x, y, z] = fnE (ex op k s x y z) := val_fnE (may3 ho hc hx hy hz)

/-! ### corners -/
theorem cornZ_inv {f : Int → Int → Int × Int} {a b c d lo hi : Int} (h : cornZ f a b c d = ((lo, hi), 0)) :
  (f a c).2 = 0 ∧ (f a d).2 = 0 ∧ (f b c).2 = 0 ∧ (f b d).2 = 0 ∧
  lo = min (min (min (min 9223372036854775807 (f a c).1) (f a d).1) (f b c).1) (f b d).1 ∧ hi = max (max (max (max (-9223372036854775808) (f a c).1) (f a d).1) (f b c).1) (f b d).1 := by
 have e0 : cv f a b c d 0 = f a c := rfl
 have e1 : cv f a b c d 1 = f a d := rfl
 have e2 : cv f a b c d 2 = f b c := rfl
 have e3 : cv f a b c d 3 = f b d := rfl
 unfold cornZ at h
 rw [e0, e1, e2, e3] at h
 by_cases h0 : (f a c).2 = 0
 ·rw [if_neg (by simp [h0])] at h
  by_cases h1 : (f a d).2 = 0
  ·rw [if_neg (by simp [h1])] at h
   by_cases h2 : (f b c).2 = 0
   ·rw [if_neg (by simp [h2])] at h
    by_cases h3 : (f b d).2 = 0
    ·rw [if_neg (by simp [h3])] at h
     simp only [Prod.mk.injEq, and_true] at h
     refine ⟨h0, h1, h2, h3, ?_, ?_⟩
     ·rw [← h.1]; simp only [cLo, e0, e1, e2, e3]
     ·rw [← h.2]; simp only [cHi, e0, e1, e2, e3]
    ·rw [if_pos h3] at h; simp only [Prod.mk.injEq] at h; exact absurd h.2 h3
   ·rw [if_pos h2] at h; simp only [Prod.mk.injEq] at h; exact absurd h.2 h2
  ·rw [if_pos h1] at h; simp only [Prod.mk.injEq] at h; exact absurd h.2 h1
 ·rw [if_pos h0] at h; simp only [Prod.mk.injEq] at h; exact absurd h.2 h0
theorem cornZ_mk {f : Int → Int → Int × Int} {a b c d : Int} (h0 : (f a c).2 = 0) (h1 : (f a d).2 = 0) (h2 : (f b c).2 = 0) (h3 : (f b d).2 = 0) :
  cornZ f a b c d = ((min (min (min (min 9223372036854775807 (f a c).1) (f a d).1) (f b c).1) (f b d).1, max (max (max (max (-9223372036854775808) (f a c).1) (f a d).1) (f b c).1) (f b d).1), 0) := by
 have e0 : cv f a b c d 0 = f a c := rfl
 have e1 : cv f a b c d 1 = f a d := rfl
 have e2 : cv f a b c d 2 = f b c := rfl
 have e3 : cv f a b c d 3 = f b d := rfl
 unfold cornZ
 rw [e0, e1, e2, e3, if_neg (by simp [h0]), if_neg (by simp [h1]), if_neg (by simp [h2]), if_neg (by simp [h3])]
 simp only [cLo, cHi, e0, e1, e2, e3]

/-- A function that between ends is between its values at the ends. -/
structure Mid (g : Int → Int → Int) (a b c d : Int) : Prop where
 fst : ∀ x y, a ≤ x → x ≤ b → c ≤ y → y ≤ d → bet (g a y) (g x y) (g b y)
 snd : ∀ x y, a ≤ x → x ≤ b → c ≤ y → y ≤ d → bet (g x c) (g x y) (g x d)

theorem Mid.hull {g : Int → Int → Int} {a b c d : Int} (h : Mid g a b c d) (hab : a ≤ b) (hcd : c ≤ d) {x y : Int} (h1 : a ≤ x) (h2 : x ≤ b) (h3 : c ≤ y) (h4 : y ≤ d) :
  min (min (min (g a c) (g a d)) (g b c)) (g b d) ≤ g x y ∧ g x y ≤ max (max (max (g a c) (g a d)) (g b c)) (g b d) := by
 have e1 := h.fst x y h1 h2 h3 h4
 have e2 := h.snd a y (Int.le_refl _) hab h3 h4
 have e3 := h.snd b y hab (Int.le_refl _) h3 h4
 unfold bet at e1 e2 e3
 omega

theorem pow_mono {m n : Nat} (h : m ≤ n) : (2 : Int) ^ m ≤ 2 ^ n ∧ (1 : Int) ≤ 2 ^ m := by
 have := pow_bd m n h
 omega

theorem ediv_mono {x y p : Int} (hp : 0 < p) (h : x ≤ y) : x / p ≤ y / p := Int.ediv_le_ediv hp h

end Go.Proofs.YtbgmljmpmemfcaaGreat.Spn

/-
 Where a span is answered, the operator's answer lies in it: on whole numbers.
-/
namespace Go.Proofs.YtbgmljmpmemfcaaGreat.Spn
open Go.RowKit Go.IntWalk
set_option linter.unusedVariables false

theorem trd (p : Prop) [Decidable p] : (p ∧ tr (decide p) = 1) ∨ (¬ p ∧ tr (decide p) = 0) := by
 by_cases h : p <;> simp [tr, h]
end Go.Proofs.YtbgmljmpmemfcaaGreat.Spn

/-
 Where a span is answered, the operator answers for all numbers of the arguments' spans, and its answer lies in the span.
-/
namespace Go.Proofs.YtbgmljmpmemfcaaGreat.Spn
open Go.RowKit Go.IntWalk
set_option linter.unusedVariables false

/-- The counts of a shift whose span was answered. -/
theorem corn_count {op k s a b c d lo hi : Int} (hop : op = 13 ∨ op = 14) (ha : W32 a) (hb : W32 b) (hc : W32 c) (hd : W32 d)
  (h : cornZ (fun u v => valZ op k s [u, v]) a b c d = ((lo, hi), 0)) : 0 ≤ c ∧ d ≤ 31 := by
 obtain ⟨e1, e2, -, -, -, -⟩ := cornZ_inv h
 have ho : ar op = 2 := by rcases hop with rfl | rfl <;> rfl
 have hco : cons op k s = true := by rcases hop with rfl | rfl <;> rfl
 simp only [val2 ho hco ha hc, val2 ho hco ha hd] at e1 e2
 have p1 := (fnE_ok e1).1
 have p2 := (fnE_ok e2).1
 have key : ∀ y, (ex op k s a y 0).2 = 0 → inB y 0 31 = true := by
  intro y hy
  cases hi : inB y 0 31
  ·rcases hop with rfl | rfl <;> simp [ex, hi] at hy
  ·rfl
 have r1 := inB_iff.1 (key c p1)
 have r2 := inB_iff.1 (key d p2)
 omega

theorem ex33' {k s a : Int} (h : max a (-a) * k ≤ 4611686018427387904) : ex 33 k s a 0 0 = (a * k / 2 ^ s.toNat, 0) := by
 have e : ex 33 k s a 0 0 = if 4611686018427387904 < max a (-a) * k then (0, 13) else (a * k / 2 ^ s.toNat, 0) := rfl
 rw [e, if_neg (by omega)]

theorem rk_corn {op k s a b c d : Int} (h : op = 10 ∨ op = 13 ∨ op = 14 ∨ op = 18 ∨ op = 19 ∨ op = 20 ∨ op = 21) : reckZ op k s [(a, b), (c, d)] = cornZ (fun u v => valZ op k s [u, v]) a b c d := by
 unfold reckZ; rw [if_neg (by omega), if_neg (by omega), if_neg (by omega), if_pos h]; rfl
theorem rk_div {op k s a b c d : Int} (h : op = 11 ∨ op = 12) : reckZ op k s [(a, b), (c, d)] = divZ (fun u v => valZ op k s [u, v]) op a b c d := by
 unfold reckZ; rw [if_neg (by omega), if_neg (by omega), if_pos h]; rfl
theorem rk_ends {op k s : Int} {L : List (Int × Int)} (h : op = 7 ∨ op = 24 ∨ op = 25 ∨ op = 26 ∨ op = 27 ∨ op = 29 ∨ op = 30 ∨ op = 33) : reckZ op k s L = endsZ (fun xs => valZ op k s xs) L := by
 unfold reckZ; rw [if_neg (by omega), if_neg (by omega), if_neg (by omega), if_neg (by omega), if_pos h]
theorem rk_one {op k s a b : Int} (h : op = 5 ∨ op = 6) : reckZ op k s [(a, b)] = (oneZ op a b, 0) := by
 unfold reckZ; rw [if_neg (by omega), if_neg (by omega), if_neg (by omega), if_neg (by omega), if_neg (by omega)]; rfl
theorem rk_two {op k s a b c d : Int} (h : op = 8 ∨ op = 9 ∨ op = 15 ∨ op = 16 ∨ op = 17 ∨ op = 22 ∨ op = 23) : reckZ op k s [(a, b), (c, d)] = (twoZ op a b c d, 0) := by
 unfold reckZ; rw [if_neg (by omega), if_neg (by omega), if_neg (by omega), if_neg (by omega), if_neg (by omega)]; rfl
theorem rk_three {op k s a b c d e f : Int} (h : op = 28) : reckZ op k s [(a, b), (c, d), (e, f)] = (selZ a b c d e f, 0) := by
 unfold reckZ; rw [if_neg (by omega), if_neg (by omega), if_neg (by omega), if_neg (by omega), if_neg (by omega)]; rfl
theorem rk_mulk {op k s a b : Int} (h : op = 32) : reckZ op k s [(a, b)] = cornZ (fun u v => valZ 10 0 0 [u, v]) a b k k := by
 unfold reckZ; rw [if_pos h]; rfl
theorem rk_andk {op k s a b : Int} (h : op = 31) : reckZ op k s [(a, b)] = (bothZ a b k k, 0) := by
 unfold reckZ; rw [if_neg (by omega), if_pos h]; rfl

theorem two_ways {op : Int} (ho : ar op = 2) : (op = 11 ∨ op = 12) ∨ (op = 10 ∨ op = 13 ∨ op = 14 ∨ op = 18 ∨ op = 19 ∨ op = 20 ∨ op = 21) ∨ (op = 24 ∨ op = 25) ∨ (op = 8 ∨ op = 9 ∨ op = 15 ∨ op = 16 ∨ op = 17 ∨ op = 22 ∨ op = 23) := by
 have hr := inB_iff.1 (two_cases ho)
 omega

end Go.Proofs.YtbgmljmpmemfcaaGreat.Spn

/-
 The stage's theorem on whole numbers, whatever the operator; and what the laws' walks share.
-/
namespace Go.Proofs.YtbgmljmpmemfcaaGreat.Spn
open Go.RowKit Go.IntWalk Go.Sort
set_option linter.unusedVariables false

/-- Numbers of the spans, one of each. -/
def Ins : List Int → List (Int × Int) → Prop
 | [], [] => True
 | x :: xs, p :: L => (p.1 ≤ x ∧ x ≤ p.2) ∧ Ins xs L
 | _, _ => False

theorem smay_inv {op k s : Int} {L : List (Int × Int)} (h : smayB op k s L = true) : (L.length : Int) = ar op ∧ 1 ≤ ar op ∧ cons op k s = true ∧ (∀ p ∈ L, whB p.1 p.2 = true) ∧ L.length ≤ 3 := by
 simp only [smayB, Bool.and_eq_true, decide_eq_true_eq, List.all_eq_true] at h
 obtain ⟨⟨⟨m1, m2⟩, m3⟩, m4⟩ := h
 have h3 := ar_le op
 exact ⟨m2, m1, m3, m4, by omega⟩

/-- The points of the first j spans. -/
def pts (L : List (Int × Int)) (t : Nat → Int) (j : Nat) : List Int := (List.range j).map fun i => ptZ (L.getD i (0, 0)).1 (L.getD i (0, 0)).2 (t i)
/-- The block of a call. -/
abbrev callC (op k s : Int) (a : Option Addr) (n cap : Nat) : Array Value := #[.int .i64 op, .int .i64 k, .int .i64 s, .slice a n cap]
theorem facts4 {W : World} {b : Nat} {t : TypeId} {x y z u : Value} (h : HasC W b t #[x, y, z, u]) : W.cell? ⟨b, 0, none⟩ = some x ∧ W.cell? ⟨b, 1, none⟩ = some y ∧ W.cell? ⟨b, 2, none⟩ = some z ∧ W.cell? ⟨b, 3, none⟩ = some u :=
 ⟨h.cell 0 rfl, h.cell 1 rfl, h.cell 2 rfl, h.cell 3 rfl⟩

/-- One list: the second of two being nil. -/
abbrev En1 (w W : World) (v : Value) (n : Nat) (xs : List Int) : Prop := En w W v (.slice none 0 0) n 0 xs []
theorem En1.start (W : World) : En1 W W (.slice none 0 0) 0 [] := by
 refine ⟨⟨rfl, .inl ⟨rfl, rfl⟩⟩, ⟨rfl, .inl ⟨rfl, rfl⟩⟩, ?_, Below.refl _ _⟩
 intro g hg
 simp [Value.ownBlock] at hg
theorem En.later {w W W' : World} {v1 v2 : Value} {n1 n2 : Nat} {xs ys : List Int} (h : En w W v1 v2 n1 n2 xs ys) (hb : Below W.heap.size W W') : En w W' v1 v2 n1 n2 xs ys := by
 have hg : W.grownBy W' none := ⟨hb.os, hb.tape, hb.output, hb.size, fun k hk _ => hb.block k hk⟩
 refine ⟨h.a.kept hg ?_, h.b.kept hg ?_, h.ap, h.bel.trans (hb.mono h.bel.size)⟩
 ·cases hv : v1.ownBlock with
  | none => exact .inl rfl
  | some q => exact .inr (by simp)
 ·cases hv : v2.ownBlock with
  | none => exact .inl rfl
  | some q => exact .inr (by simp)

end Go.Proofs.YtbgmljmpmemfcaaGreat.Spn

/-
 A list of spans that a call makes: an append of one span.
-/
namespace Go.Proofs.YtbgmljmpmemfcaaGreat.Spn
open Go.RowKit Go.IntWalk Go.Sort
set_option linter.unusedVariables false

theorem info26 : (Tryz.prog.info? 43).map (fun i => (i.zero, i.size, i.bytes)) = some (some (.agg #[.int .i64 0, .int .i64 0]), 2, 16) := by kernel_rfl

def sp64 (L : List (Int × Int)) : List Value := L.flatMap fun p => [.int .i64 p.1, .int .i64 p.2]
theorem sp64_len (L : List (Int × Int)) : (sp64 L).length = L.length * 2 := by
 induction L with
 | nil => rfl
 | cons p L ih => simp [sp64] at *; omega
theorem sp64_snoc (L : List (Int × Int)) (x y : Int) : sp64 (L ++ [(x, y)]) = sp64 L ++ [.int .i64 x, .int .i64 y] := by simp [sp64]
theorem sp64_get : ∀ (L : List (Int × Int)) (i : Nat), i < L.length → (sp64 L)[i * 2]? = some (.int .i64 (L.getD i (0, 0)).1) ∧ (sp64 L)[i * 2 + 1]? = some (.int .i64 (L.getD i (0, 0)).2)
 | [], i, h => by simp at h
 | p :: L, 0, h => by simp [sp64]
 | p :: L, i + 1, h => by
  have h' := sp64_get L i (by simpa using h)
  have e : sp64 (p :: L) = .int .i64 p.1 :: .int .i64 p.2 :: sp64 L := by simp [sp64]
  rw [e, show (i + 1) * 2 = i * 2 + 1 + 1 by omega, show i * 2 + 1 + 1 + 1 = (i * 2 + 1) + 1 + 1 by omega]
  simp only [List.getElem?_cons_succ]
  simpa using h'
/-- A list of spans in memory of the call's own. -/
structure Es (w W : World) (v : Value) (n : Nat) (L : List (Int × Int)) : Prop where
 a : W.ownsRow w.heap.size 43 2 v n (sp64 L)
 bel : Below w.heap.size w W
theorem Es.alloc {w W : World} {v : Value} {n : Nat} {L : List (Int × Int)} (h : Es w W v n L) (o : Obj) : Es w (W.alloc o) v n L := ⟨h.a.alloc o, h.bel.alloc h.bel.size o⟩
theorem Es.drew {w W : World} {v : Value} {n : Nat} {L : List (Int × Int)} (h : Es w W v n L) : Es w W.drew v n L := ⟨h.a.drew, h.bel.trans ⟨rfl, rfl, rfl, Nat.le_refl _, fun _ _ => rfl⟩⟩
theorem Es.start (W : World) : Es W W (.slice none 0 0) 0 [] := ⟨⟨rfl, .inl ⟨rfl, rfl⟩⟩, Below.refl _ _⟩
theorem Es.later {w W W' : World} {v : Value} {n : Nat} {L : List (Int × Int)} (h : Es w W v n L) (hb : Below W.heap.size W W') : Es w W' v n L := by
 have hg : W.grownBy W' none := ⟨hb.os, hb.tape, hb.output, hb.size, fun k hk _ => hb.block k hk⟩
 refine ⟨h.a.kept hg ?_, h.bel.trans (hb.mono h.bel.size)⟩
 cases hv : v.ownBlock with
 | none => exact .inl rfl
 | some q => exact .inr (by simp)

theorem Spans.of_owns {w : World} {base : Nat} {v : Value} {n : Nat} {L : List (Int × Int)} (h : w.ownsRow base 43 2 v n (sp64 L)) (hl : L.length = n) : ∃ a cap, v = .slice a n cap ∧ Spans w a n cap L := by
 have hcs := fun g hg => h.cells (g := g) hg
 rcases h.2 with ⟨rfl, rfl⟩ | ⟨g, cap, cur, rfl, hb, hg, hnc, hcm, hsz, htake⟩
 ·exact ⟨none, 0, rfl, ⟨hl, Nat.le_refl _, Nat.zero_le _, fun _ => rfl, .inl rfl⟩⟩
 ·refine ⟨some ⟨g, 0, none⟩, cap, rfl, ⟨hl, hnc, hcm, (fun h => by cases h), .inr ⟨g, 0, rfl, fun i hi => ?_⟩⟩⟩
  obtain ⟨e1, e2⟩ := sp64_get L i (by omega)
  have h1 := hcs g rfl _ _ e1
  have h2 := hcs g rfl _ _ e2
  rw [Addr.add_lit] at h1 h2
  exact ⟨h1, by rw [Nat.add_assoc]; exact h2⟩

theorem news_two {W : World} {b : Nat} {x y : Int} (h : HasC W b 43 #[.int .i64 x, .int .i64 y]) : ∀ j u, [Value.int .i64 x, .int .i64 y][j]? = some u → W.cell? ((⟨b, 0, none⟩ : Addr).add j) = some u := by
 intro j u hu
 rw [Addr.add_lit]
 match j, hu with
 | 0, hu => simp at hu; subst hu; exact h.cell 0 rfl
 | 1, hu => simp at hu; subst hu; exact h.cell 1 rfl
 | _ + 2, hu => simp at hu

theorem Es.grow {w W w' : World} {v : Value} {n : Nat} {L : List (Int × Int)} (h : Es w W v n L) {g cap : Nat} {x y : Int} (hl : L.length = n)
  (hown : w'.ownsRow w.heap.size 43 2 (.slice (some ⟨g, 0, none⟩) (n + 1) cap) (n + 1) (sp64 L ++ [.int .i64 x, .int .i64 y])) (hgrow : W.grownBy w' v.ownBlock) :
  Es w w' (.slice (some ⟨g, 0, none⟩) (n + 1) cap) (n + 1) (L ++ [(x, y)]) :=
 ⟨by rw [sp64_snoc]; exact hown, h.bel.grown hgrow h.bel.size (fun k hk => (h.a.lt k hk).1)⟩

/-- An append of one span, at a step of a plain region. -/
theorem list_span {w W : World} {v : Value} {n : Nat} {L : List (Int × Int)} {ops : Array Oper} {rest : List Oper} {o : Oper} {a : Act} {Q : Exit → Act → World → Prop}
  (hgd : o.guard = none) (s x : Operand) (ho : o.op = .call { callee := .builtin .append, args := #[s, x], argTypes := #[30, 30] })
  (hs : a.eval s = v) (hen : Es w W v n L) (b : Nat) (p q : Int) (hx : a.eval x = .slice (some ⟨b, 0, none⟩) 1 1) (hc : HasC W b 43 #[.int .i64 p, .int .i64 q]) (h3 : n ≤ 8796093022001)
  (h : ∀ g cap w', Es w w' (.slice (some ⟨g, 0, none⟩) (n + 1) cap) (n + 1) (L ++ [(p, q)]) → W.heap.size ≤ w'.heap.size → wpList Tryz.prog ops Q rest (a.put o.dst (.slice (some ⟨g, 0, none⟩) (n + 1) cap)) w') :
  wpList Tryz.prog ops Q (o :: rest) a W := by
 obtain ⟨i0, hi0, hz0, hz1, hz2⟩ := info_parts info26
 have hl : L.length = n := by
  have := hen.a.1
  rw [sp64_len] at this
  omega
 refine wpList_append_lies W hgd s x 30 ho w.heap.size 43 i0 _ 2 16 Tryz.underlying30 hi0 hz0 hz1 hz2 rfl (by omega) v n (sp64 L) hs hen.a ⟨b, 0, none⟩ 1 1 [.int .i64 p, .int .i64 q] hx rfl (news_two hc) (by simp [Value.oneCell']) (by omega) (by unfold maxLen; omega) (by omega) hen.bel.size W.heap.size rfl ?_
 intro g cap w' hown hgrow hat hlt
 exact h g cap w' (hen.grow hl hown hgrow) hgrow.size

end Go.Proofs.YtbgmljmpmemfcaaGreat.Spn
