/-
  The walk of span.ends: what an operator makes of all Lo, to what it makes of all Hi.
-/
import Derived.Test.YtlhbgkaknfhlnaaSpEnds0
namespace Go.Proofs.Ytlhbgkaknfhlnaa.Spn
open Go.RowKit Go.IntWalk Go.Sort
set_option linter.unusedVariables false

def fsts (L : List (Int × Int)) : List Int := L.map (·.1)
def snds (L : List (Int × Int)) : List Int := L.map (·.2)
theorem fsts_succ {L : List (Int × Int)} {j : Nat} {x y : Int} (hj : j < L.length) (h : L.getD j (0, 0) = (x, y)) : fsts (L.take (j + 1)) = fsts (L.take j) ++ [x] ∧ snds (L.take (j + 1)) = snds (L.take j) ++ [y] := by
  have e : L[j] = (x, y) := by simpa [List.getD, hj] using h
  rw [List.take_succ_eq_append_getElem hj, e]
  simp [fsts, snds]

/-- What is answered of both ends. -/
def endsZ (f : List Int → Int × Int) (L : List (Int × Int)) : (Int × Int) × Int :=
  if (f (fsts L)).2 ≠ 0 then ((0, 0), (f (fsts L)).2) else (((f (fsts L)).1, (f (snds L)).1), (f (snds L)).2)
def endsV (f : List Int → Int × Int) (L : List (Int × Int)) : Value := .tuple #[.agg #[.int .i64 (endsZ f L).1.1, .int .i64 (endsZ f L).1.2], .int .i64 (endsZ f L).2]

theorem cell_old {W : World} {o : Obj} {b i : Nat} (h : b < W.heap.size) : (W.alloc o).cell? ⟨b, i, none⟩ = W.cell? ⟨b, i, none⟩ := (bel1 W o).cell (p := ⟨b, i, none⟩) h

theorem c3 (W : World) (x y p q : Int) :
    (((W.alloc (cs x y)).alloc (.cells #[.int .i64 p] 3)).alloc (.cells #[.int .i64 q] 3)).cell? ⟨W.heap.size, 0, none⟩ = some (.int .i64 x) ∧
    (((W.alloc (cs x y)).alloc (.cells #[.int .i64 p] 3)).alloc (.cells #[.int .i64 q] 3)).cell? ⟨W.heap.size, 1, none⟩ = some (.int .i64 y) ∧
    (((W.alloc (cs x y)).alloc (.cells #[.int .i64 p] 3)).alloc (.cells #[.int .i64 q] 3)).cell? ⟨W.heap.size + 1, 0, none⟩ = some (.int .i64 p) ∧
    (((W.alloc (cs x y)).alloc (.cells #[.int .i64 p] 3)).alloc (.cells #[.int .i64 q] 3)).cell? ⟨W.heap.size + 1 + 1, 0, none⟩ = some (.int .i64 q) := by
  have h1 := ((HasC.new W 42 #[.int .i64 x, .int .i64 y]).alloc (.cells #[.int .i64 p] 3)).alloc (.cells #[.int .i64 q] 3)
  have h2 := (HasC.new (W.alloc (cs x y)) 3 #[.int .i64 p]).alloc (.cells #[.int .i64 q] 3)
  have h3 := HasC.new ((W.alloc (cs x y)).alloc (.cells #[.int .i64 p] 3)) 3 #[.int .i64 q]
  simp only [World.size_alloc] at h2 h3
  exact ⟨h1.cell 0 rfl, h1.cell 1 rfl, h2.cell 0 rfl, h3.cell 0 rfl⟩

set_option maxRecDepth 100000 in
set_option maxHeartbeats 4000000 in
theorem ends_any (op k s : Int) (b1 b2 b3 : Nat) (a : Option Addr) (n cap : Nat) (L : List (Int × Int)) (w : World) (hc : Cap w b1 b2 b3 op k s) (h : Spans w a n cap L) (hn3 : n ≤ 3) (f : List Int → Int × Int) (hf : ∀ xs, valZ op k s xs = f xs) :
    Calls Try.prog 53 #[.slice a n cap, .func (.func 48) #[] #[ptr b1, ptr b2, ptr b3]] w fun e w' => e = .returned (endsV f L) ∧ Below w.heap.size w w' := by
  have hl := h.len
  have HC := hide hc
  have H := hide h
  have HL := hide hl
  have HF := hide hf
  clear hl hc h hf
  have R0 := HasC.new w 42 #[.int .i64 0, .int .i64 0]
  have B0 := bel1 w (cs 0 0)
  have hs0 : (w.alloc (cs 0 0)).heap.size = w.heap.size + 1 := by simp
  obtain ⟨w0, hw0⟩ : ∃ w0, w.alloc (cs 0 0) = w0 := ⟨_, rfl⟩
  rw [hw0] at R0 B0 hs0
  have HR0 := hide R0
  have HB0 := hide B0
  have HW0 := hide hw0
  clear R0 B0 hw0
  have hE0 : En w0 w0 (.slice none 0 0) (.slice none 0 0) 0 0 [] [] := by
    refine ⟨⟨rfl, .inl ⟨rfl, rfl⟩⟩, ⟨rfl, .inl ⟨rfl, rfl⟩⟩, ?_, Below.refl _ _⟩
    intro g hg
    simp [Value.ownBlock] at hg
  have HE0 := hide hE0
  clear hE0
  go_enter Try.func53, Try.ntmps53
  go_wp2_with fail
  rw [show w.alloc (.cells #[.int .i64 0, .int .i64 0] 42) = w0 from HW0.out]
  go_loopw [6, 7, 15] (fun v1 v2 i wr => ∃ j : Nat, j ≤ n ∧ i = .int .i64 j ∧ En w0 wr v1 v2 j j (fsts (L.take j)) (snds (L.take j))) (fun _ _ i _ => n - (intOf i).toNat)
  case atStart => exact ⟨0, by omega, rfl, HE0.out⟩
  case round =>
    rename_i wr
    obtain ⟨j, hj, rfl, hen⟩ := hrel
    have HEN := hide hen
    clear hen
    have HBW := hide (bel HB0.out HEN.out.bel)
    by_cases hlt : j < n
    · obtain ⟨bb, off, rfl, hbb, hcell⟩ := (H.out.later HBW.out).at (by omega)
      obtain ⟨g1, g2⟩ := hcell j hlt
      clear hcell
      obtain ⟨⟨x, y⟩, hxy⟩ : ∃ p, L.getD j (0, 0) = p := ⟨_, rfl⟩
      rw [hxy] at g1 g2
      have HXY := hide hxy
      clear hxy
      have hj0 : (0 : Int) ≤ (j : Int) := by omega
      have hj1 : (j : Int) < (n : Int) := by omega
      have hv1 : ∀ g, u6.ownBlock = some g → g < wr.heap.size := fun g hg => (HEN.out.a.lt g hg).2
      have HV1 := hide hv1
      clear hv1
      have hv2 : ∀ g, u7.ownBlock = some g → g < wr.heap.size := fun g hg => (HEN.out.b.lt g hg).2
      have HV2 := hide hv2
      clear hv2
      go_wp2_with fail
      go_region_held3 (fun w' => w'.cell? ⟨wr.heap.size, 0, none⟩ = some (.int .i64 x) ∧ w'.cell? ⟨wr.heap.size, 1, none⟩ = some (.int .i64 y))
        (first | exact ⟨t1, t2⟩ | exact ⟨t3, t4⟩ | go_keep)
        (first
          | (refine step_a (by rfl) _ _ (by rfl) (by rfl) (by first | exact ((HEN.out.alloc _).alloc _).drew | exact (((HEN.out.alloc _).alloc _).alloc _).drew) _ x (by rfl) (by first | (simp; done) | exact (c3 wr x y x y).2.2.1 | exact (c3 wr x y y x).2.2.2) (by omega) ?_; intro g cap1 w1 hen1 hk1 hsz1; have t1 : w1.cell? ⟨wr.heap.size, 0, none⟩ = some (.int .i64 x) := (by rw [hk1 _ (by simp; omega) (fun h => by have := HV1.out _ h; simp at this)]; first | (simp; done) | exact (c3 wr x y x y).1 | exact (c3 wr x y y x).1); have t2 : w1.cell? ⟨wr.heap.size, 1, none⟩ = some (.int .i64 y) := (by rw [hk1 _ (by simp; omega) (fun h => by have := HV1.out _ h; simp at this)]; first | (simp; done) | exact (c3 wr x y x y).2.1 | exact (c3 wr x y y x).2.1); have hl1 : wr.heap.size < w1.heap.size := World.block_lt_of_cell? w1 _ t1)
          | (refine step_b (by rfl) _ _ (by rfl) (by rfl) (by first | exact hen1 | exact hen1.alloc _) _ y (by rfl) (by first | (simp; done) | (rw [hk1 _ (by simp) (fun h => by have := HV1.out _ h; simp at this; omega)]; first | exact (c3 wr x y x y).2.2.2 | exact (c3 wr x y y x).2.2.1)) (by omega) ?_; intro gb cap2 w2 hen2 hk2 hsz2; have t3 : w2.cell? ⟨wr.heap.size, 0, none⟩ = some (.int .i64 x) := (by rw [hk2 _ (by first | exact hl1 | (simp; omega)) (fun h => by have := HV2.out _ h; simp at this)]; first | exact t1 | exact (cell_old hl1).trans t1); have t4 : w2.cell? ⟨wr.heap.size, 1, none⟩ = some (.int .i64 y) := (by rw [hk2 _ (by first | exact hl1 | (simp; omega)) (fun h => by have := HV2.out _ h; simp at this)]; first | exact t2 | exact (cell_old hl1).trans t2)))
      all_goals
        clear hk1 hk2 t1 t2 t3 t4 hl1 hsz1 hsz2 hen1 g1 g2 HEN HV1 HV2 HBW hbb
        have HEN2 := hide hen2
        clear hen2
        go_wp2_with fail
        go_roundw
        case rel =>
          refine ⟨j + 1, by omega, by go_num, ?_⟩
          have hs := fsts_succ (by rw [HL.out]; exact hlt) HXY.out
          rw [hs.1, hs.2]
          exact HEN2.out
        case measure => simp [intOf]; omega
    · obtain rfl : j = n := by omega
      have he := HEN.out
      rw [List.take_of_length_le (by rw [HL.out]; omega)] at he
      obtain ⟨a1, c1, rfl, hI1, -⟩ := Ints.of_owns he.a
      obtain ⟨a2, c2, rfl, hI2, -⟩ := Ints.of_owns he.b
      have HI2 := hide hI2
      have CA := ask_any op k s b1 b2 b3 a1 j c1 (fsts L) wr hI1 (HC.out.later HBW.out)
      have HR := hide (HR0.out.below HEN.out.bel)
      clear he hI1 hI2 HEN
      rw [HF.out] at CA
      obtain ⟨⟨z1, e1⟩, hZ1⟩ : ∃ Z, f (fsts L) = Z := ⟨_, rfl⟩
      rw [hZ1] at CA
      have HZ1 := hide hZ1
      have HCA := hide CA
      clear hZ1 CA
      go_wp2_with fail
      refine HCA.out.mono ?_
      rintro e' w2 ⟨rfl, hb2⟩
      have HB2 := hide (bel HBW.out hb2)
      have HR2 := hide (HR.out.below hb2)
      have HI22 := hide (HI2.out.later hb2)
      clear hb2 HBW HR HI2 HCA
      by_cases he1 : e1 = 0
      · subst he1
        have CB := ask_any op k s b1 b2 b3 a2 j c2 (snds L) w2 HI22.out (HC.out.later HB2.out)
        rw [HF.out] at CB
        obtain ⟨⟨z2, e2⟩, hZ2⟩ : ∃ Z, f (snds L) = Z := ⟨_, rfl⟩
        rw [hZ2] at CB
        have HZ2 := hide hZ2
        have HCB := hide CB
        clear hZ2 CB
        go_wp2_with fail
        refine HCB.out.mono ?_
        rintro e' w3 ⟨rfl, hb3⟩
        have HB3 := hide (bel HB2.out hb3)
        have HR3 := hide (HR2.out.below hb3)
        clear hb3 HB2 HR2 HCB
        obtain ⟨s1, s2, s3, s4⟩ := facts2 HR3.out
        go_wp2_with fail
        obtain ⟨d0, d1, hB2⟩ := stored2 HR3.out HB3.out (by omega) z1 z2
        exact bodyPost_ret (v := .tuple #[.agg #[.int .i64 z1, .int .i64 z2], .int .i64 e2]) (by simp [results, Try.results53, go_sem, d0, d1]) rfl ⟨by simp [endsV, endsZ, HZ1.out, HZ2.out], hB2⟩
      · have he' : (e1 != 0) = true := by simp [he1]
        have HE1 := hide he1
        clear he1
        obtain ⟨s1, s2, s3, s4⟩ := facts2 HR2.out
        go_wp2_with fail
        obtain ⟨d0, d1, hB2⟩ := stored2 HR2.out HB2.out (by omega) 0 0
        exact bodyPost_ret (v := .tuple #[.agg #[.int .i64 0, .int .i64 0], .int .i64 e1]) (by simp [results, Try.results53, go_sem, d0, d1]) rfl ⟨by simp [endsV, endsZ, HZ1.out, HE1.out], hB2⟩

end Go.Proofs.Ytlhbgkaknfhlnaa.Spn
