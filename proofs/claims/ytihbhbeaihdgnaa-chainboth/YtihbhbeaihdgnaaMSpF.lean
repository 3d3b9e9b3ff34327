/-
  The walk of span.ends: what an operator makes of all Lo, to what it makes of all Hi.
-/
import Derived.Test.YtihbhbeaihdgnaaMSpE
namespace Go.Proofs.Ytihbhbeaihdgnaa.Spn
open Go.RowKit Go.IntWalk Go.Sort
set_option linter.unusedVariables false

def fsts (L : List (Int × Int)) : List Int := L.map (·.1)
def snds (L : List (Int × Int)) : List Int := L.map (·.2)
theorem fsts_succ {L : List (Int × Int)} {j : Nat} {x y : Int} (hj : j < L.length) (h : L.getD j (0, 0) = (x, y)) : fsts (L.take (j + 1)) = fsts (L.take j) ++ [x] ∧ snds (L.take (j + 1)) = snds (L.take j) ++ [y] := by
  have e : L[j] = (x, y) := by simpa [List.getD, hj] using h
  rw [List.take_succ_eq_append_getElem hj, e]
  simp [fsts, snds]

/-- What is answered of both ends. -/
def endsZ (f : List Int → Int × Int) (L : List (Int × Int)) : (Int × Int) × Int :=
  if (f (fsts L)).2 ≠ 0 then ((0, 0), (f (fsts L)).2) else (((f (fsts L)).1, (f (snds L)).1), (f (snds L)).2)
def endsV (f : List Int → Int × Int) (L : List (Int × Int)) : Value := .tuple #[.agg #[.int .i64 (endsZ f L).1.1, .int .i64 (endsZ f L).1.2], .int .i64 (endsZ f L).2]

theorem cell_old {W : World} {o : Obj} {b i : Nat} (h : b < W.heap.size) : (W.alloc o).cell? ⟨b, i, none⟩ = W.cell? ⟨b, i, none⟩ := (bel1 W o).cell (p := ⟨b, i, none⟩) h

theorem c3 (W : World) (x y p q : Int) :
    (((W.alloc (cs x y)).alloc (.cells #[.int .i64 p] 3)).alloc (.cells #[.int .i64 q] 3)).cell? ⟨W.heap.size, 0, none⟩ = some (.int .i64 x) ∧
    (((W.alloc (cs x y)).alloc (.cells #[.int .i64 p] 3)).alloc (.cells #[.int .i64 q] 3)).cell? ⟨W.heap.size, 1, none⟩ = some (.int .i64 y) ∧
    (((W.alloc (cs x y)).alloc (.cells #[.int .i64 p] 3)).alloc (.cells #[.int .i64 q] 3)).cell? ⟨W.heap.size + 1, 0, none⟩ = some (.int .i64 p) ∧
    (((W.alloc (cs x y)).alloc (.cells #[.int .i64 p] 3)).alloc (.cells #[.int .i64 q] 3)).cell? ⟨W.heap.size + 1 + 1, 0, none⟩ = some (.int .i64 q) := by
  have h1 := ((HasC.new W 73 #[.int .i64 x, .int .i64 y]).alloc (.cells #[.int .i64 p] 3)).alloc (.cells #[.int .i64 q] 3)
  have h2 := (HasC.new (W.alloc (cs x y)) 3 #[.int .i64 p]).alloc (.cells #[.int .i64 q] 3)
  have h3 := HasC.new ((W.alloc (cs x y)).alloc (.cells #[.int .i64 p] 3)) 3 #[.int .i64 q]
  simp only [World.size_alloc] at h2 h3
  exact ⟨h1.cell 0 rfl, h1.cell 1 rfl, h2.cell 0 rfl, h3.cell 0 rfl⟩

set_option maxRecDepth 100000 in
set_option maxHeartbeats 4000000 in
theorem ends_any (op k s : Int) (b1 b2 b3 : Nat) (a : Option Addr) (n cap : Nat) (L : List (Int × Int)) (w : World) (hc : Cap w b1 b2 b3 op k s) (h : Spans w a n cap L) (hn3 : n ≤ 3) (f : List Int → Int × Int) (hf : ∀ xs, valZ op k s xs = f xs) :
    Calls Try.prog 72 #[.slice a n cap, .func (.func 67) #[] #[ptr b1, ptr b2, ptr b3]] w fun e w' => e = .returned (endsV f L) ∧ Below w.heap.size w w' := by
  have hl := h.len
  have HC := hide hc
  have H := hide h
  have HL := hide hl
  have HF := hide hf
  clear hl hc h hf
  have R0 := HasC.new w 73 #[.int .i64 0, .int .i64 0]
  have B0 := bel1 w (cs 0 0)
  have hs0 : (w.alloc (cs 0 0)).heap.size = w.heap.size + 1 := by simp
  obtain ⟨w0, hw0⟩ : ∃ w0, w.alloc (cs 0 0) = w0 := ⟨_, rfl⟩
  rw [hw0] at R0 B0 hs0
  have HR0 := hide R0
  have HB0 := hide B0
  have HW0 := hide hw0
  clear R0 B0 hw0
  have hE0 : En w0 w0 (.slice none 0 0) (.slice none 0 0) 0 0 [] [] := by
    refine ⟨⟨rfl, .inl ⟨rfl, rfl⟩⟩, ⟨rfl, .inl ⟨rfl, rfl⟩⟩, ?_, Below.refl _ _⟩
    intro g hg
    simp [Value.ownBlock] at hg
  have HE0 := hide hE0
  clear hE0
  go_enter Try.func72, Try.ntmps72
  go_wp2_with fail
  rw [show w.alloc (.cells #[.int .i64 0, .int .i64 0] 73) = w0 from HW0.out]
  go_loopw [6, 7, 15] (fun v1 v2 i wr => ∃ j : Nat, j ≤ n ∧ i = .int .i64 j ∧ En w0 wr v1 v2 j j (fsts (L.take j)) (snds (L.take j))) (fun _ _ i _ => n - (intOf i).toNat)
  case atStart => exact ⟨0, by omega, rfl, HE0.out⟩
  case round =>
    rename_i wr
    obtain ⟨j, hj, rfl, hen⟩ := hrel
    have HEN := hide hen
    clear hen
    have HBW := hide (bel HB0.out HEN.out.bel)
    by_cases hlt : j < n
    · obtain ⟨bb, off, rfl, hbb, hcell⟩ := (H.out.later HBW.out).at (by omega)
      obtain ⟨g1, g2⟩ := hcell j hlt
      clear hcell
      obtain ⟨⟨x, y⟩, hxy⟩ : ∃ p, L.getD j (0, 0) = p := ⟨_, rfl⟩
      rw [hxy] at g1 g2
      have HXY := hide hxy
      clear hxy
      have hj0 : (0 : Int) ≤ (j : Int) := by omega
      have hj1 : (j : Int) < (n : Int) := by omega
      have hv1 : ∀ g, u6.ownBlock = some g → g < wr.heap.size := fun g hg => (HEN.out.a.lt g hg).2
      have HV1 := hide hv1
      clear hv1
      have hv2 : ∀ g, u7.ownBlock = some g → g < wr.heap.size := fun g hg => (HEN.out.b.lt g hg).2
      have HV2 := hide hv2
      clear hv2
      go_wp2_with fail
      go_region_held3 (fun w' => w'.cell? ⟨wr.heap.size, 0, none⟩ = some (.int .i64 x) ∧ w'.cell? ⟨wr.heap.size, 1, none⟩ = some (.int .i64 y))
        (first | exact ⟨t1, t2⟩ | exact ⟨t3, t4⟩ | go_keep)
        (first
          | (refine step_a (by rfl) _ _ (by rfl) (by rfl) (by first | exact ((HEN.out.alloc _).alloc _).drew | exact (((HEN.out.alloc _).alloc _).alloc _).drew) _ x (by rfl) (by first | (simp; done) | exact (c3 wr x y x y).2.2.1 | exact (c3 wr x y y x).2.2.2) (by omega) ?_; intro g cap1 w1 hen1 hk1 hsz1; have t1 : w1.cell? ⟨wr.heap.size, 0, none⟩ = some (.int .i64 x) := (by rw [hk1 _ (by simp; omega) (fun h => by have := HV1.out _ h; simp at this)]; first | (simp; done) | exact (c3 wr x y x y).1 | exact (c3 wr x y y x).1); have t2 : w1.cell? ⟨wr.heap.size, 1, none⟩ = some (.int .i64 y) := (by rw [hk1 _ (by simp; omega) (fun h => by have := HV1.out _ h; simp at this)]; first | (simp; done) | exact (c3 wr x y x y).2.1 | exact (c3 wr x y y x).2.1); have hl1 : wr.heap.size < w1.heap.size := World.block_lt_of_cell? w1 _ t1)
          | (refine step_b (by rfl) _ _ (by rfl) (by rfl) (by first | exact hen1 | exact hen1.alloc _) _ y (by rfl) (by first | (simp; done) | (rw [hk1 _ (by simp) (fun h => by have := HV1.out _ h; simp at this; omega)]; first | exact (c3 wr x y x y).2.2.2 | exact (c3 wr x y y x).2.2.1)) (by omega) ?_; intro gb cap2 w2 hen2 hk2 hsz2; have t3 : w2.cell? ⟨wr.heap.size, 0, none⟩ = some (.int .i64 x) := (by rw [hk2 _ (by first | exact hl1 | (simp; omega)) (fun h => by have := HV2.out _ h; simp at this)]; first | exact t1 | exact (cell_old hl1).trans t1); have t4 : w2.cell? ⟨wr.heap.size, 1, none⟩ = some (.int .i64 y) := (by rw [hk2 _ (by first | exact hl1 | (simp; omega)) (fun h => by have := HV2.out _ h; simp at this)]; first | exact t2 | exact (cell_old hl1).trans t2)))
      all_goals
        clear hk1 hk2 t1 t2 t3 t4 hl1 hsz1 hsz2 hen1 g1 g2 HEN HV1 HV2 HBW hbb
        have HEN2 := hide hen2
        clear hen2
        go_wp2_with fail
        go_roundw
        case rel =>
          refine ⟨j + 1, by omega, by go_num, ?_⟩
          have hs := fsts_succ (by rw [HL.out]; exact hlt) HXY.out
          rw [hs.1, hs.2]
          exact HEN2.out
        case measure => simp [intOf]; omega
    · obtain rfl : j = n := by omega
      have he := HEN.out
      rw [List.take_of_length_le (by rw [HL.out]; omega)] at he
      obtain ⟨a1, c1, rfl, hI1, -⟩ := Ints.of_owns he.a
      obtain ⟨a2, c2, rfl, hI2, -⟩ := Ints.of_owns he.b
      have HI2 := hide hI2
      have CA := ask_any op k s b1 b2 b3 a1 j c1 (fsts L) wr hI1 (HC.out.later HBW.out)
      have HR := hide (HR0.out.below HEN.out.bel)
      clear he hI1 hI2 HEN
      rw [HF.out] at CA
      obtain ⟨⟨z1, e1⟩, hZ1⟩ : ∃ Z, f (fsts L) = Z := ⟨_, rfl⟩
      rw [hZ1] at CA
      have HZ1 := hide hZ1
      have HCA := hide CA
      clear hZ1 CA
      go_wp2_with fail
      refine HCA.out.mono ?_
      rintro e' w2 ⟨rfl, hb2⟩
      have HB2 := hide (bel HBW.out hb2)
      have HR2 := hide (HR.out.below hb2)
      have HI22 := hide (HI2.out.later hb2)
      clear hb2 HBW HR HI2 HCA
      by_cases he1 : e1 = 0
      · subst he1
        have CB := ask_any op k s b1 b2 b3 a2 j c2 (snds L) w2 HI22.out (HC.out.later HB2.out)
        rw [HF.out] at CB
        obtain ⟨⟨z2, e2⟩, hZ2⟩ : ∃ Z, f (snds L) = Z := ⟨_, rfl⟩
        rw [hZ2] at CB
        have HZ2 := hide hZ2
        have HCB := hide CB
        clear hZ2 CB
        go_wp2_with fail
        refine HCB.out.mono ?_
        rintro e' w3 ⟨rfl, hb3⟩
        have HB3 := hide (bel HB2.out hb3)
        have HR3 := hide (HR2.out.below hb3)
        clear hb3 HB2 HR2 HCB
        obtain ⟨s1, s2, s3, s4⟩ := facts2 HR3.out
        go_wp2_with fail
        obtain ⟨d0, d1, hB2⟩ := stored2 HR3.out HB3.out (by omega) z1 z2
        exact bodyPost_ret (v := .tuple #[.agg #[.int .i64 z1, .int .i64 z2], .int .i64 e2]) (by simp [results, Try.results72, go_sem, d0, d1]) rfl ⟨by simp [endsV, endsZ, HZ1.out, HZ2.out], hB2⟩
      · have he' : (e1 != 0) = true := by simp [he1]
        have HE1 := hide he1
        clear he1
        obtain ⟨s1, s2, s3, s4⟩ := facts2 HR2.out
        go_wp2_with fail
        obtain ⟨d0, d1, hB2⟩ := stored2 HR2.out HB2.out (by omega) 0 0
        exact bodyPost_ret (v := .tuple #[.agg #[.int .i64 0, .int .i64 0], .int .i64 e1]) (by simp [results, Try.results72, go_sem, d0, d1]) rfl ⟨by simp [endsV, endsZ, HZ1.out, HE1.out], hB2⟩

end Go.Proofs.Ytihbhbeaihdgnaa.Spn

/-
  The walks of span.divided, span.plain and span.reckoned.
-/
namespace Go.Proofs.Ytihbhbeaihdgnaa.Spn
open Go.RowKit Go.IntWalk Go.Sort
set_option linter.unusedVariables false

/-- An answer: a span and an error. -/
abbrev spV (Z : (Int × Int) × Int) : Value := .tuple #[.agg #[.int .i64 Z.1.1, .int .i64 Z.1.2], .int .i64 Z.2]

/-- OpDiv and OpMod. -/
def divZ (f : Int → Int → Int × Int) (op a b c d : Int) : (Int × Int) × Int :=
  if hasB c d 0 = true then ((0, 0), 12) else if op = 11 then cornZ f a b c d else (leftZ a b c d, 0)

theorem sdivided_any (op k s a b c d : Int) (b1 b2 b3 : Nat) (w : World) (hc : Cap w b1 b2 b3 op k s) (f : Int → Int → Int × Int) (hf : ∀ u v, valZ op k s [u, v] = f u v)
    (ho : op = 11 ∨ op = 12) (ha : W32 a) (hb : W32 b) (hc' : W32 c) (hd : W32 d) :
    Calls Try.prog 70 #[.int .i64 op, .agg #[.int .i64 a, .int .i64 b], .agg #[.int .i64 c, .int .i64 d], .func (.func 67) #[] #[ptr b1, ptr b2, ptr b3]] w fun e w' =>
      e = .returned (spV (divZ f op a b c d)) ∧ Below w.heap.size w w' := by
  have HH := fun w => hide (has_any c d 0 w)
  have HC := hide hc
  have HF := hide hf
  clear hc hf
  cases h0 : hasB c d 0
  · rw [h0] at HH
    rcases ho with rfl | rfl
    · rw [show divZ f 11 a b c d = cornZ f a b c d by simp [divZ, h0]]
      clear h0
      go_enter Try.func70, Try.ntmps70
      go_wp2_with fail
      refine (HH _).out.mono ?_
      rintro e w2 ⟨rfl, hb2⟩
      obtain ⟨k1, k2, k3, hB⟩ := box2 hb2
      obtain ⟨q1, q2, -, -⟩ := facts2 k1
      obtain ⟨r1, r2, -, -⟩ := facts2 k2
      have HK3 := hide k3
      have HB2 := hide hB
      have CC := hide (corners_any 11 k s a b c d b1 b2 b3 w2 (HC.out.later hB) f HF.out)
      clear hb2 k1 k2 k3 hB
      unfold cornV at CC
      obtain ⟨⟨⟨x, y⟩, e⟩, hZ⟩ : ∃ Z, cornZ f a b c d = Z := ⟨_, rfl⟩
      rw [hZ] at CC
      have HZ := hide hZ
      clear hZ
      go_wp2_with fail
      refine CC.out.mono ?_
      rintro e' w3 ⟨rfl, hb3⟩
      have hR := HK3.out.below hb3
      have hB3 := bel HB2.out hb3
      obtain ⟨s1, s2, s3, s4⟩ := facts2 hR
      clear hb3
      go_wp2_with fail
      obtain ⟨d0, d1, hB4⟩ := stored2 hR hB3 (by omega) x y
      exact bodyPost_ret (v := .tuple #[.agg #[.int .i64 x, .int .i64 y], .int .i64 e]) (by simp [results, Try.results70, go_sem, d0, d1]) rfl ⟨by rw [HZ.out], hB4⟩
    · rw [show divZ f 12 a b c d = (leftZ a b c d, 0) by simp [divZ, h0]]
      clear h0
      have HLf := fun w => hide (left_any a b c d w ha hb hc' hd)
      generalize leftZ a b c d = Z at *
      obtain ⟨x, y⟩ := Z
      go_enter Try.func70, Try.ntmps70
      go_wp2_with fail
      refine (HH _).out.mono ?_
      rintro e w2 ⟨rfl, hb2⟩
      obtain ⟨k1, k2, k3, hB⟩ := box2 hb2
      obtain ⟨q1, q2, -, -⟩ := facts2 k1
      obtain ⟨r1, r2, -, -⟩ := facts2 k2
      have HK3 := hide k3
      have HB2 := hide hB
      clear hb2 k1 k2 k3 hB
      go_wp2_with fail
      refine (HLf _).out.mono ?_
      rintro e' w3 ⟨rfl, hb3⟩
      have hR := HK3.out.below hb3
      have hB3 := bel HB2.out hb3
      obtain ⟨s1, s2, s3, s4⟩ := facts2 hR
      clear hb3
      go_wp2_with fail
      obtain ⟨d0, d1, hB4⟩ := stored2 hR hB3 (by omega) x y
      exact bodyPost_ret (v := .tuple #[.agg #[.int .i64 x, .int .i64 y], .int .i64 0]) (by simp [results, Try.results70, go_sem, d0, d1]) rfl ⟨rfl, hB4⟩
  · rw [show divZ f op a b c d = ((0, 0), 12) by simp [divZ, h0]]
    rw [h0] at HH
    clear h0 ho
    go_enter Try.func70, Try.ntmps70
    go_wp2_with fail
    refine (HH _).out.mono ?_
    rintro e w2 ⟨rfl, hb2⟩
    obtain ⟨-, -, k3, hB⟩ := box2 hb2
    obtain ⟨s1, s2, s3, s4⟩ := facts2 k3
    clear hb2
    go_wp2_with fail
    obtain ⟨d0, d1, hB4⟩ := stored2 k3 hB (by omega) 0 0
    exact bodyPost_ret (v := .tuple #[.agg #[.int .i64 0, .int .i64 0], .int .i64 12]) (by simp [results, Try.results70, go_sem, d0, d1]) rfl ⟨rfl, hB4⟩

/-- The spans that are reckoned without asking for a value. -/
def plainZ (op : Int) (L : List (Int × Int)) : Int × Int :=
  if L.length = 1 then oneZ op (L.getD 0 (0, 0)).1 (L.getD 0 (0, 0)).2 else if L.length = 2 then twoZ op (L.getD 0 (0, 0)).1 (L.getD 0 (0, 0)).2 (L.getD 1 (0, 0)).1 (L.getD 1 (0, 0)).2
  else selZ (L.getD 0 (0, 0)).1 (L.getD 0 (0, 0)).2 (L.getD 1 (0, 0)).1 (L.getD 1 (0, 0)).2 (L.getD 2 (0, 0)).1 (L.getD 2 (0, 0)).2

theorem splain_1 (op a b : Int) (bb off cap : Nat) (w : World) (hcap : 1 ≤ cap) (hlt : bb < w.heap.size) (c0 : w.cell? ⟨bb, off, none⟩ = some (.int .i64 a)) (c1 : w.cell? ⟨bb, off + 1, none⟩ = some (.int .i64 b)) (ha : W32 a) (hb : W32 b) :
    Calls Try.prog 73 #[.int .i64 op, .slice (some ⟨bb, off, none⟩) 1 cap] w fun e w' => e = .returned (.agg #[.int .i64 (oneZ op a b).1, .int .i64 (oneZ op a b).2]) ∧ Below w.heap.size w w' := by
  have HA := fun w => hide (sofOne_any op a b w ha hb)
  generalize oneZ op a b = Z at *
  obtain ⟨x, y⟩ := Z
  have d0 := (cell_old (o := cs 0 0) (i := off) hlt).trans c0
  have d1 := (cell_old (o := cs 0 0) (i := off + 1) hlt).trans c1
  have HR := hide (HasC.new w 73 #[.int .i64 0, .int .i64 0])
  have HB := hide (bel1 w (cs 0 0))
  clear c0 c1
  go_enter Try.func73, Try.ntmps73
  go_wp2_with fail
  refine (HA _).out.mono ?_
  rintro e w2 ⟨rfl, hb2⟩
  have hR := HR.out.below hb2
  have hB := bel HB.out hb2
  obtain ⟨s1, s2, s3, s4⟩ := facts2 hR
  clear hb2
  go_wp2_with fail
  obtain ⟨d0, d1, hB4⟩ := stored2 hR hB (by omega) x y
  exact bodyPost_ret (v := .agg #[.int .i64 x, .int .i64 y]) (by simp [results, Try.results73, go_sem, d0, d1]) rfl ⟨rfl, hB4⟩

set_option maxRecDepth 100000 in
set_option maxHeartbeats 1000000 in
theorem splain_2 (op a b c d : Int) (bb off cap : Nat) (w : World) (hcap : 2 ≤ cap) (hlt : bb < w.heap.size) (c0 : w.cell? ⟨bb, off, none⟩ = some (.int .i64 a)) (c1 : w.cell? ⟨bb, off + 1, none⟩ = some (.int .i64 b))
    (c2 : w.cell? ⟨bb, off + 2, none⟩ = some (.int .i64 c)) (c3 : w.cell? ⟨bb, off + 2 + 1, none⟩ = some (.int .i64 d)) (ha : W32 a) (hb : W32 b) (hc : W32 c) (hd : W32 d) (ho : op = 8 ∨ op = 9 ∨ op = 15 ∨ op = 16 ∨ op = 17 ∨ op = 22 ∨ op = 23) :
    Calls Try.prog 73 #[.int .i64 op, .slice (some ⟨bb, off, none⟩) 2 cap] w fun e w' => e = .returned (.agg #[.int .i64 (twoZ op a b c d).1, .int .i64 (twoZ op a b c d).2]) ∧ Below w.heap.size w w' := by
  have HA := fun w => hide (sofTwo_any op a b c d w ha hb hc hd ho)
  generalize twoZ op a b c d = Z at *
  obtain ⟨x, y⟩ := Z
  have d0 := (cell_old (o := cs 0 0) (i := off) hlt).trans c0
  have d1 := (cell_old (o := cs 0 0) (i := off + 1) hlt).trans c1
  have d2 := (cell_old (o := cs 0 0) (i := off + 2) hlt).trans c2
  have d3 := (cell_old (o := cs 0 0) (i := off + 2 + 1) hlt).trans c3
  have HR := hide (HasC.new w 73 #[.int .i64 0, .int .i64 0])
  have HB := hide (bel1 w (cs 0 0))
  have HO := hide ho
  clear c0 c1 c2 c3 ho
  go_enter Try.func73, Try.ntmps73
  go_wp2_with fail
  have e0 := cell_regrown d0
  have e1 := cell_regrown d1
  have e2 := cell_regrown d2
  have e3 := cell_regrown d3
  refine wp_region_quiet_last_lit (hf := (List.dropLast_concat_getLast (by simp)).symm) mixed (by kernel_rfl) rfl (by kernel_rfl) (by kernel_rfl) (by kernel_rfl) (by kernel_rfl) (by kernel_rfl) ?_
  simp only [List.dropLast_cons_cons, List.dropLast_singleton, List.getLast_cons_cons, List.getLast_singleton]
  repeat (go_big_quiet_step ((go_at_call 87; exact Calls.regrown_of (HA _).out)))
  refine wpQuiet_nil ?_
  intro _ hw'
  obtain ⟨pq, hw''⟩ := hw'
  subst hw''
  have hb2 := below_regrown (w.alloc (cs 0 0)) pq.d pq.os
  have hR := HR.out.below hb2
  have hB := bel HB.out hb2
  clear hb2 d0 d1 d2 d3 e0 e1 e2 e3
  generalize grow (redrawn (w.alloc (.cells #[.int .i64 0, .int .i64 0] 73)) pq.d) pq.os = G at *
  obtain ⟨s1, s2, s3, s4⟩ := facts2 hR
  go_wp2_with fail
  obtain ⟨d0, d1, hB4⟩ := stored2 hR hB (by omega) x y
  exact bodyPost_ret (v := .agg #[.int .i64 x, .int .i64 y]) (by simp [results, Try.results73, go_sem, d0, d1]) rfl ⟨rfl, hB4⟩

set_option maxRecDepth 100000 in
set_option maxHeartbeats 1000000 in
theorem splain_3 (op a b c d e f : Int) (bb off cap : Nat) (w : World) (hcap : 3 ≤ cap) (hlt : bb < w.heap.size) (c0 : w.cell? ⟨bb, off, none⟩ = some (.int .i64 a)) (c1 : w.cell? ⟨bb, off + 1, none⟩ = some (.int .i64 b))
    (c2 : w.cell? ⟨bb, off + 2, none⟩ = some (.int .i64 c)) (c3 : w.cell? ⟨bb, off + 2 + 1, none⟩ = some (.int .i64 d)) (c4 : w.cell? ⟨bb, off + 4, none⟩ = some (.int .i64 e)) (c5 : w.cell? ⟨bb, off + 4 + 1, none⟩ = some (.int .i64 f)) :
    Calls Try.prog 73 #[.int .i64 op, .slice (some ⟨bb, off, none⟩) 3 cap] w fun r w' => r = .returned (.agg #[.int .i64 (selZ a b c d e f).1, .int .i64 (selZ a b c d e f).2]) ∧ Below w.heap.size w w' := by
  have HA := fun w => hide (schosen_any a b c d e f w)
  generalize selZ a b c d e f = Z at *
  obtain ⟨x, y⟩ := Z
  have d0 := (cell_old (o := cs 0 0) (i := off) hlt).trans c0
  have d1 := (cell_old (o := cs 0 0) (i := off + 1) hlt).trans c1
  have d2 := (cell_old (o := cs 0 0) (i := off + 2) hlt).trans c2
  have d3 := (cell_old (o := cs 0 0) (i := off + 2 + 1) hlt).trans c3
  have d4 := (cell_old (o := cs 0 0) (i := off + 4) hlt).trans c4
  have d5 := (cell_old (o := cs 0 0) (i := off + 4 + 1) hlt).trans c5
  have HR := hide (HasC.new w 73 #[.int .i64 0, .int .i64 0])
  have HB := hide (bel1 w (cs 0 0))
  clear c0 c1 c2 c3 c4 c5
  go_enter Try.func73, Try.ntmps73
  go_wp2_with fail
  have e0 := cell_regrown d0
  have e1 := cell_regrown d1
  have e2 := cell_regrown d2
  have e3 := cell_regrown d3
  have e4 := cell_regrown d4
  have e5 := cell_regrown d5
  refine wp_region_quiet_last_lit (hf := (List.dropLast_concat_getLast (by simp)).symm) mixed (by kernel_rfl) rfl (by kernel_rfl) (by kernel_rfl) (by kernel_rfl) (by kernel_rfl) (by kernel_rfl) ?_
  simp only [List.dropLast_cons_cons, List.dropLast_singleton, List.getLast_cons_cons, List.getLast_singleton]
  repeat (go_big_quiet_step ((go_at_call 88; exact Calls.regrown_of (HA _).out)))
  refine wpQuiet_nil ?_
  intro _ hw'
  obtain ⟨pq, hw''⟩ := hw'
  subst hw''
  have hb2 := below_regrown (w.alloc (cs 0 0)) pq.d pq.os
  have hR := HR.out.below hb2
  have hB := bel HB.out hb2
  clear hb2 d0 d1 d2 d3 d4 d5 e0 e1 e2 e3 e4 e5
  generalize grow (redrawn (w.alloc (.cells #[.int .i64 0, .int .i64 0] 73)) pq.d) pq.os = G at *
  obtain ⟨s1, s2, s3, s4⟩ := facts2 hR
  go_wp2_with fail
  obtain ⟨d0, d1, hB4⟩ := stored2 hR hB (by omega) x y
  exact bodyPost_ret (v := .agg #[.int .i64 x, .int .i64 y]) (by simp [results, Try.results73, go_sem, d0, d1]) rfl ⟨rfl, hB4⟩

end Go.Proofs.Ytihbhbeaihdgnaa.Spn
