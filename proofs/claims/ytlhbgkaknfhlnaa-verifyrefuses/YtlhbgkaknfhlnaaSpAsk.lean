/-
  The closure that asks an operator, and the corners.
-/
import Derived.Test.YtlhbgkaknfhlnaaSpThr3
import Derived.Test.YtlhbgkaknfhlnaaSpLast
import Derived.LoopN
namespace Go.Proofs.Ytlhbgkaknfhlnaa.Spn
open Go.RowKit Go.IntWalk Go.Sort
set_option linter.unusedVariables false

abbrev ptr (b : Nat) : Value := .pointer (some ⟨b, 0, none⟩)

/-- What the closure captured lies in three blocks. -/
structure Cap (w : World) (b1 b2 b3 : Nat) (op k s : Int) : Prop where
  o : HasC w b1 3 #[.int .i64 op]
  k : HasC w b2 3 #[.int .i64 k]
  s : HasC w b3 3 #[.int .i64 s]
theorem Cap.later {w w' : World} {b1 b2 b3 : Nat} {op k s : Int} (h : Cap w b1 b2 b3 op k s) (hb : Below w.heap.size w w') : Cap w' b1 b2 b3 op k s := ⟨h.o.below hb, h.k.below hb, h.s.below hb⟩

theorem ask_any (op k s : Int) (b1 b2 b3 : Nat) (a : Option Addr) (n cap : Nat) (xs : List Int) (w : World) (h : Ints w a n cap xs) (hc : Cap w b1 b2 b3 op k s) :
    Calls Try.prog 48 #[.slice a n cap, ptr b1, ptr b2, ptr b3] w fun e w' => e = .returned (.tuple #[.int .i64 (valZ op k s xs).1, .int .i64 (valZ op k s xs).2]) ∧ Below w.heap.size w w' := by
  have c1 := hc.o.cell 0 rfl
  have c2 := hc.k.cell 0 rfl
  have c3 := hc.s.cell 0 rfl
  have HV := hide (value_any op k s a n cap xs w h)
  obtain ⟨⟨x, e⟩, hZ⟩ : ∃ Z, valZ op k s xs = Z := ⟨_, rfl⟩
  rw [hZ] at HV ⊢
  clear hZ h hc
  go_enter Try.func48, Try.ntmps48
  go_wp2_with fail
  refine HV.out.mono ?_
  rintro e w2 ⟨rfl, hb⟩
  go_wp2_with fail
  go_ret2
  exact ⟨rfl, hb⟩

/-- The memory of 'corners'. -/
structure Cn (w0 w : World) (a b c d x y : Int) (b1 b2 b3 : Nat) (op k s : Int) : Prop where
  a : HasC w w0.heap.size 42 #[.int .i64 a, .int .i64 b]
  b : HasC w (w0.heap.size + 1) 42 #[.int .i64 c, .int .i64 d]
  r : HasC w (w0.heap.size + 1 + 1) 42 #[.int .i64 0, .int .i64 0]
  q : HasC w (w0.heap.size + 1 + 1 + 1) 42 #[.int .i64 x, .int .i64 y]
  cap : Cap w b1 b2 b3 op k s
  lt : b1 < w0.heap.size ∧ b2 < w0.heap.size ∧ b3 < w0.heap.size
  bel : Below w0.heap.size w0 w

theorem Cn.later {w0 w w' : World} {a b c d x y : Int} {b1 b2 b3 : Nat} {op k s : Int} (h : Cn w0 w a b c d x y b1 b2 b3 op k s) (hb : Below w.heap.size w w') : Cn w0 w' a b c d x y b1 b2 b3 op k s :=
  ⟨h.a.below hb, h.b.below hb, h.r.below hb, h.q.below hb, h.cap.later hb, h.lt, h.bel.trans (hb.mono h.bel.size)⟩

theorem Cn.start {w : World} {a b c d x y : Int} {b1 b2 b3 : Nat} {op k s : Int} (h : Cap w b1 b2 b3 op k s) : Cn w ((((w.alloc (cs a b)).alloc (cs c d)).alloc (cs 0 0)).alloc (cs x y)) a b c d x y b1 b2 b3 op k s := by
  obtain ⟨h1, h2, h3, h4, hB⟩ := box4 (w := w) (a := a) (b := b) (c := c) (d := d) (e := 0) (f := 0) (x := x) (y := y) (Below.refl _ _)
  exact ⟨h1, h2, h3, h4, h.later hB, ⟨h.o.lt, h.k.lt, h.s.lt⟩, hB⟩

theorem Cn.put {w0 w : World} {a b c d x y : Int} {b1 b2 b3 : Nat} {op k s : Int} (h : Cn w0 w a b c d x y b1 b2 b3 op k s) (x' y' : Int) :
    Cn w0 ((w.setCell ⟨w0.heap.size + 1 + 1 + 1, 0, none⟩ (.int .i64 x')).setCell ⟨w0.heap.size + 1 + 1 + 1, 1, none⟩ (.int .i64 y')) a b c d x' y' b1 b2 b3 op k s := by
  obtain ⟨l1, l2, l3⟩ := h.lt
  have o := fun {n : Nat} {t : TypeId} {cs : Array Value} (hn : n ≠ w0.heap.size + 1 + 1 + 1) (hh : HasC w n t cs) => (hh.other (p := ⟨w0.heap.size + 1 + 1 + 1, 0, none⟩) hn (.int .i64 x')).other (p := ⟨w0.heap.size + 1 + 1 + 1, 1, none⟩) hn (.int .i64 y')
  refine ⟨o (by omega) h.a, o (by omega) h.b, o (by omega) h.r, ?_, ⟨o (by omega) h.cap.o, o (by omega) h.cap.k, o (by omega) h.cap.s⟩, h.lt, ?_⟩
  · exact (h.q.set 0 (.int .i64 x')).set 1 (.int .i64 y')
  · exact (h.bel.setCell (p := ⟨w0.heap.size + 1 + 1 + 1, 0, none⟩) (by simp; omega) _).setCell (p := ⟨w0.heap.size + 1 + 1 + 1, 1, none⟩) (by simp; omega) _

/-- One of two ends. -/
def pk (i : Nat) (x y : Int) : Int := if i = 0 then x else y

theorem idx_any (x y : Int) (i : Nat) (hi : i < 2) (w : World) : (Instr.index 88 (.agg #[.int .i64 x, .int .i64 y]) (.int .i64 i)).run Try.prog w = .ok (.int .i64 (pk i x y)) w := by
  rcases (show i = 0 ∨ i = 1 by omega) with rfl | rfl <;> simp [Instr.index, go_sem, pk]

/-- The corner of number n: what is made of it, and the hull of those ahead of it. -/
def cv (f : Int → Int → Int × Int) (a b c d : Int) (n : Nat) : Int × Int := f (pk (n / 2) a b) (pk (n % 2) c d)
def cLo (f : Int → Int → Int × Int) (a b c d : Int) : Nat → Int
  | 0 => 9223372036854775807
  | n + 1 => min (cLo f a b c d n) (cv f a b c d n).1
def cHi (f : Int → Int → Int × Int) (a b c d : Int) : Nat → Int
  | 0 => -9223372036854775808
  | n + 1 => max (cHi f a b c d n) (cv f a b c d n).1
def cOk (f : Int → Int → Int × Int) (a b c d : Int) (n : Nat) : Prop := ∀ m, m < n → (cv f a b c d m).2 = 0
theorem cOk_succ {f : Int → Int → Int × Int} {a b c d : Int} {n : Nat} (h : cOk f a b c d n) (h1 : (cv f a b c d n).2 = 0) : cOk f a b c d (n + 1) := by
  intro m hm
  by_cases e : m = n
  · subst e; exact h1
  · exact h m (by omega)

/-- What is answered of four corners. -/
def cornZ (f : Int → Int → Int × Int) (a b c d : Int) : (Int × Int) × Int :=
  if (cv f a b c d 0).2 ≠ 0 then ((0, 0), (cv f a b c d 0).2) else if (cv f a b c d 1).2 ≠ 0 then ((0, 0), (cv f a b c d 1).2) else if (cv f a b c d 2).2 ≠ 0 then ((0, 0), (cv f a b c d 2).2) else if (cv f a b c d 3).2 ≠ 0 then ((0, 0), (cv f a b c d 3).2) else
  ((cLo f a b c d 4, cHi f a b c d 4), 0)
theorem cornZ_bad {f : Int → Int → Int × Int} {a b c d : Int} {n : Nat} (h : cOk f a b c d n) (hn : n < 4) (he : (cv f a b c d n).2 ≠ 0) : cornZ f a b c d = ((0, 0), (cv f a b c d n).2) := by
  unfold cornZ
  rcases (show n = 0 ∨ n = 1 ∨ n = 2 ∨ n = 3 by omega) with rfl | rfl | rfl | rfl
  · rw [if_pos he]
  · rw [if_neg (by simpa using h 0 (by omega)), if_pos he]
  · rw [if_neg (by simpa using h 0 (by omega)), if_neg (by simpa using h 1 (by omega)), if_pos he]
  · rw [if_neg (by simpa using h 0 (by omega)), if_neg (by simpa using h 1 (by omega)), if_neg (by simpa using h 2 (by omega)), if_pos he]
theorem cornZ_ok {f : Int → Int → Int × Int} {a b c d : Int} (h : cOk f a b c d 4) : cornZ f a b c d = ((cLo f a b c d 4, cHi f a b c d 4), 0) := by
  unfold cornZ
  rw [if_neg (by simpa using h 0 (by omega)), if_neg (by simpa using h 1 (by omega)), if_neg (by simpa using h 2 (by omega)), if_neg (by simpa using h 3 (by omega))]

def cornV (f : Int → Int → Int × Int) (a b c d : Int) : Value := .tuple #[.agg #[.int .i64 (cornZ f a b c d).1.1, .int .i64 (cornZ f a b c d).1.2], .int .i64 (cornZ f a b c d).2]

set_option maxRecDepth 100000 in
set_option maxHeartbeats 4000000 in
theorem corners_any (op k s a b c d : Int) (b1 b2 b3 : Nat) (w : World) (hc : Cap w b1 b2 b3 op k s) (f : Int → Int → Int × Int) (hf : ∀ u v, valZ op k s [u, v] = f u v) :
    Calls Try.prog 52 #[.agg #[.int .i64 a, .int .i64 b], .agg #[.int .i64 c, .int .i64 d], .func (.func 48) #[] #[ptr b1, ptr b2, ptr b3]] w fun e w' =>
      e = .returned (cornV f a b c d) ∧ Below w.heap.size w w' := by
  have HC0 := hide (Cn.start (a := a) (b := b) (c := c) (d := d) (x := 9223372036854775807) (y := -9223372036854775808) hc)
  have HF := hide hf
  clear hc hf
  go_enter Try.func52, Try.ntmps52
  go_wp2_with fail
  go_loopw [21] (fun i wr => ∃ n : Nat, n ≤ 2 ∧ i = .int .i64 n ∧ cOk f a b c d (2 * n) ∧ Cn w wr a b c d (cLo f a b c d (2 * n)) (cHi f a b c d (2 * n)) b1 b2 b3 op k s) (fun i _ => 2 - (intOf i).toNat)
  case atStart => exact ⟨0, by omega, rfl, (fun m hm => by omega), HC0.out⟩
  case round =>
    obtain ⟨n, hn, rfl, hok, hcn⟩ := hrel
    have HOK := hide hok
    have HCN := hide hcn
    clear hok hcn
    obtain ⟨q1, q2, -, -⟩ := facts2 HCN.out.a
    obtain ⟨r1, r2, -, -⟩ := facts2 HCN.out.b
    by_cases hlt : n < 2
    · have hix := idx_any a b n hlt
      have hd : decide ((n : Int) < 2) = true := by simp; omega
      go_wp2_with fail
      go_loopw [29] (fun i wr => ∃ m : Nat, m ≤ 2 ∧ i = .int .i64 m ∧ cOk f a b c d (2 * n + m) ∧ Cn w wr a b c d (cLo f a b c d (2 * n + m)) (cHi f a b c d (2 * n + m)) b1 b2 b3 op k s) (fun i _ => 2 - (intOf i).toNat)
      case atStart => exact ⟨0, by omega, rfl, HOK.out, HCN.out⟩
      case round =>
        obtain ⟨m, hm, rfl, hok', hcn'⟩ := hrel
        have HOK2 := hide hok'
        have HCN2 := hide hcn'
        clear hok' hcn'
        by_cases hlt' : m < 2
        · have hix' := idx_any c d m hlt'
          have hcv : cv f a b c d (2 * n + m) = f (pk n a b) (pk m c d) := by
            unfold cv
            rw [show (2 * n + m) / 2 = n by omega, show (2 * n + m) % 2 = m by omega]
          have HCV := hide hcv
          clear hcv
          rename_i wr
          have CA := ask_any op k s b1 b2 b3 _ _ _ _ _ (lit2 wr 3 (pk n a b) (pk m c d)) (HCN2.out.cap.later (bel1 _ _))
          rw [HF.out] at CA
          obtain ⟨⟨z, e⟩, hZ⟩ : ∃ Z, f (pk n a b) (pk m c d) = Z := ⟨_, rfl⟩
          rw [hZ] at CA HCV
          clear hZ
          have HCA := hide CA
          clear CA
          go_wp2_with fail
          refine HCA.out.mono ?_
          rintro e' w2 ⟨rfl, hb2⟩
          have HC2 := hide (HCN2.out.later (bel (bel1 _ _) hb2))
          clear hb2 HCA HCN2 HCN q1 q2 r1 r2
          obtain ⟨s1, s2, s3, s4⟩ := facts2 HC2.out.r
          by_cases he : e = 0
          · subst he
            obtain ⟨x, hx⟩ : ∃ x, cLo f a b c d (2 * n + m) = x := ⟨_, rfl⟩
            obtain ⟨y, hy⟩ : ∃ y, cHi f a b c d (2 * n + m) = y := ⟨_, rfl⟩
            rw [hx, hy] at HC2
            have HX := hide hx
            have HY := hide hy
            clear hx hy
            obtain ⟨t1, t2, t3, t4⟩ := facts2 HC2.out.q
            go_wp2_with fail
            have u1 := cell_regrown t1
            have u2 := cell_regrown t2
            refine wp_region_quiet_last_lit (hf := (List.dropLast_concat_getLast (by simp)).symm) mixed (by kernel_rfl) rfl (by kernel_rfl) (by kernel_rfl) (by kernel_rfl) (by kernel_rfl) (by kernel_rfl) ?_
            simp only [List.dropLast_cons_cons, List.dropLast_singleton, List.getLast_cons_cons, List.getLast_singleton, -Int.reduceNeg]
            repeat (go_big_quiet_step ((first | (go_at_call 49; exact Calls.regrown_of (alone_any _ _)) | (go_at_call 63; exact Calls.regrown_of (join_any _ _ _ _ _)))))
            refine wpQuiet_nil ?_
            intro _ hw'
            obtain ⟨pq, hw''⟩ := hw'
            subst hw''
            have HC3 := hide (HC2.out.later (below_regrown w2 pq.d pq.os))
            clear HC2 t1 t2 t3 t4 s1 s2 s3 s4 u1 u2
            generalize grow (redrawn w2 pq.d) pq.os = G at *
            obtain ⟨t1, t2, t3, t4⟩ := facts2 HC3.out.q
            obtain ⟨x', hx'⟩ : ∃ x', min x z = x' := ⟨_, rfl⟩
            obtain ⟨y', hy'⟩ : ∃ y', max y z = y' := ⟨_, rfl⟩
            rw [hx', hy']
            have HX' := hide hx'
            have HY' := hide hy'
            clear hx' hy'
            go_wp2_with fail
            go_roundw
            case rel =>
              refine ⟨m + 1, by omega, by go_num, cOk_succ (n := 2 * n + m) HOK2.out (by rw [HCV.out]), ?_⟩
              have h := HC3.out.put x' y'
              rw [show cLo f a b c d (2 * n + (m + 1)) = x' by
                show min (cLo f a b c d (2 * n + m)) (cv f a b c d (2 * n + m)).1 = x'
                rw [HX.out, HCV.out, HX'.out], show cHi f a b c d (2 * n + (m + 1)) = y' by
                show max (cHi f a b c d (2 * n + m)) (cv f a b c d (2 * n + m)).1 = y'
                rw [HY.out, HCV.out, HY'.out]]
              exact h
            case measure => simp [intOf]; omega
          · have he' : (e != 0) = true := by simp [he]
            have hv : cornV f a b c d = .tuple #[.agg #[.int .i64 0, .int .i64 0], .int .i64 e] := by
              unfold cornV
              rw [cornZ_bad HOK2.out (by omega) (by rw [HCV.out]; exact he), HCV.out]
            have HV := hide hv
            clear hv he
            go_wp2_with fail
            obtain ⟨c0, c1, hB2⟩ := stored2 HC2.out.r HC2.out.bel (by omega) 0 0
            exact bodyPost_ret (v := .tuple #[.agg #[.int .i64 0, .int .i64 0], .int .i64 e]) (by simp [results, Try.results52, go_sem, c0, c1]) rfl ⟨by rw [HV.out], hB2⟩
        · obtain rfl : m = 2 := by omega
          go_wp2_with fail
          go_roundw
          case rel => exact ⟨n + 1, by omega, by go_num, HOK2.out, HCN2.out⟩
          case measure => simp [intOf]; omega
    · obtain rfl : n = 2 := by omega
      have hv : cornV f a b c d = .tuple #[.agg #[.int .i64 (cLo f a b c d 4), .int .i64 (cHi f a b c d 4)], .int .i64 0] := by
        unfold cornV
        rw [cornZ_ok HOK.out]
      obtain ⟨x, hx⟩ : ∃ x, cLo f a b c d 4 = x := ⟨_, rfl⟩
      obtain ⟨y, hy⟩ : ∃ y, cHi f a b c d 4 = y := ⟨_, rfl⟩
      rw [show 2 * 2 = 4 from rfl, hx, hy] at HCN
      rw [hx, hy] at hv
      have HV := hide hv
      clear hx hy hv
      obtain ⟨t1, t2, t3, t4⟩ := facts2 HCN.out.q
      obtain ⟨s1, s2, s3, s4⟩ := facts2 HCN.out.r
      go_wp2_with fail
      obtain ⟨c0, c1, hB2⟩ := stored2 HCN.out.r HCN.out.bel (by omega) x y
      exact bodyPost_ret (v := .tuple #[.agg #[.int .i64 x, .int .i64 y], .int .i64 0]) (by simp [results, Try.results52, go_sem, c0, c1]) rfl ⟨by rw [HV.out], hB2⟩

end Go.Proofs.Ytlhbgkaknfhlnaa.Spn
