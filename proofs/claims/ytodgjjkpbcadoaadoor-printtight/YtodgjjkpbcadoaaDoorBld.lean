/-
  The printer's builder, which lies in the printer's own block: what each of its methods leaves.
-/
import Derived.Test.YtodgjjkpbcadoaaDoorRdRn
import Derived.Lib.Builder
import Derived.Lib.AppendStr
import Derived.Lib.UnsafeStr
import Derived.Laws.Externs
namespace Go.Proofs.YtodgjjkpbcadoaaDoor
open Go.RowKit Go.IntWalk Lx Pz
set_option linter.unusedVariables false

/-- The tree's cells in the printer's block. -/
structure Tv where
  nv : Value
  bv : Value
  dv : Value
  rv : Value

abbrev pcs (p v : Value) (t : Tv) : Array Value := #[p, v, t.nv, t.bv, t.dv, t.rv]

/-- A printer in block b that holds these bytes; what lay ahead of w is as it was. -/
structure Pb (w W : World) (b : Nat) (t : Tv) (out : List UInt8) : Prop where
  ex : ∃ p v, (p = .pointer none ∨ p = .pointer (some ⟨b, 0, none⟩)) ∧ HasC W b 43 (pcs p v t) ∧ W.ownsRow w.heap.size 5 1 v out.length (Lib.byteCells out)
  base : w.heap.size ≤ b
  old : Below w.heap.size w W

/-- What the printer's methods write to: printers and rows of bytes. -/
abbrev SP : List TypeId := [43, 5]

theorem Pb.later {w W W' : World} {b : Nat} {t : Tv} {out : List UInt8} (h : Pb w W b t out) (hb : Below W.heap.size W W') : Pb w W' b t out := by
  obtain ⟨p, v, hp, hc, ho⟩ := h.ex
  have hk := Kp.of_below [] hb
  exact ⟨⟨p, v, hp, hc.kp hk (by simp), owns_kp ho hk (by simp)⟩, h.base, bel h.old hb⟩

theorem infoBu : (Tryd.prog.info? 41).map (fun i => i.size) = some 2 := by kernel_rfl
theorem liesBu : liesAt Tryd.prog Tryd.prog.depth 43 (6 / Tryd.prog.cellsOf 43) 0 41 1 = true := by kernel_rfl
theorem info5 : (Tryd.prog.info? 5).map (fun i => (i.zero, i.size, i.bytes)) = some (some (.int .u8 0), 1, 1) := by kernel_rfl

set_option maxHeartbeats 1000000 in
set_option maxRecDepth 100000 in
theorem copyCheck_used {W : World} {b : Nat} (h0 : W.cell? ⟨b, 0, none⟩ = some (.pointer (some ⟨b, 0, none⟩))) :
    Calls Tryd.prog 33 #[ptr b] W fun e W' => e = .returned (.tuple #[]) ∧ W' = W := by
  obtain ⟨j, hj, _⟩ := Option.map_eq_some_iff.1 infoBu
  go_enter Tryd.func33, Tryd.ntmps33
  go_wp2
  rw [Lib.run_neq_ptr_same W _ Tryd.underlying38 hj]
  go_wp2
  go_end0
  exact ⟨rfl, rfl⟩

set_option maxHeartbeats 1000000 in
set_option maxRecDepth 100000 in
theorem copyCheck_fresh {W : World} {b : Nat} {v : Value} {t : Tv} (hc : HasC W b 43 (pcs (.pointer none) v t)) :
    Calls Tryd.prog 33 #[ptr b] W fun e W' => e = .returned (.tuple #[]) ∧ W' = W.setCell ⟨b, 0, none⟩ (.pointer (some ⟨b, 0, none⟩)) := by
  obtain ⟨j, hj, hjs⟩ := Option.map_eq_some_iff.1 infoBu
  have h0 := hc.cell 0 rfl
  have hfz := hc.frozen 0
  have hsh : W.shape? b = some (43, 6) := by
    have : W.heap[b]? = some (.cells (pcs (.pointer none) v t) 43 (0, 0)) := hc
    simp [World.shape?, this]
  have HC := hide hc
  clear hc
  go_enter Tryd.func33, Tryd.ntmps33
  go_wp2
  rw [Lib.run_to_unsafe W ⟨b, 0, none⟩ Tryd.underlying38 Tryd.underlying95 hj (by rw [hjs]; decide) hsh (Nat.zero_lt_succ 5)]
  simp only [Result.andThen]
  rw [Oper.upon_value]
  go_wp2
  rw [run_callFunc_extern Tryd.func57 (by kernel_rfl) (by kernel_rfl) (by kernel_rfl) (e := Extern.AbiNoEscape.same) (by kernel_rfl)]
  rw [Lib.run_noEscape]
  simp only [Result.andThen]
  rw [Oper.upon_value]
  go_wp2
  rw [Lib.run_from_unsafe W ⟨b, 0, none⟩ Tryd.underlying95 Tryd.underlying38 hj hsh liesBu]
  simp only [Result.andThen]
  rw [Oper.upon_value]
  go_wp2
  go_end0
  exact ⟨rfl, rfl⟩

theorem own_set {W : World} {base b : Nat} {t : TypeId} {cs : Array Value} {v : Value} {n : Nat} {xs : List Value} (h : W.ownsRow base 5 1 v n xs) (hc : HasC W b t cs) (ht : t ≠ 5) (i : Nat) (u : Value) : (W.setCell ⟨b, i, none⟩ u).ownsRow base 5 1 v n xs :=
  owns_kp h (Kp.set (S := [t]) hc (by simp) i u) (by simpa using Ne.symm ht)

/-- What copyCheck leaves: a printer whose builder knows its own address. -/
theorem copyCheck_any {w W : World} {b : Nat} {t : Tv} {out : List UInt8} (h : Pb w W b t out) :
    Calls Tryd.prog 33 #[ptr b] W fun e W' => e = .returned (.tuple #[]) ∧ (∃ v, HasC W' b 43 (pcs (ptr b) v t) ∧ W'.ownsRow w.heap.size 5 1 v out.length (Lib.byteCells out)) ∧ Below w.heap.size w W' ∧ Kp SP W W' := by
  obtain ⟨p, v, rfl | rfl, hc, ho⟩ := h.ex
  · refine (copyCheck_fresh hc).mono ?_
    rintro e W' ⟨rfl, rfl⟩
    exact ⟨rfl, ⟨v, hc.set 0 _, own_set ho hc (by decide) 0 _⟩, h.old.setCell (p := ⟨b, 0, none⟩) h.base _, Kp.set hc (by simp) 0 _⟩
  · refine (copyCheck_used (hc.cell 0 rfl)).mono ?_
    rintro e W' ⟨rfl, rfl⟩
    exact ⟨rfl, ⟨v, hc, ho⟩, h.old, Kp.refl _ _⟩

/-- A new buffer laid into the builder. -/
theorem Pb.put {w W1 W2 : World} {b : Nat} {t : Tv} {v v' : Value} {row : Option Nat} {out' : List UInt8} (hc : HasC W1 b 43 (pcs (ptr b) v t)) (hb : w.heap.size ≤ b) (ho : Below w.heap.size w W1) (hg : W1.grownBy W2 row)
    (hrow : ∀ k, row = some k → w.heap.size ≤ k ∧ ∃ cs fr, W1.heap[k]? = some (.cells cs 5 fr)) (hown : W2.ownsRow w.heap.size 5 1 v' out'.length (Lib.byteCells out')) :
    Pb w (W2.setCell ⟨b, 1, none⟩ v') b t out' ∧ Kp SP W1 (W2.setCell ⟨b, 1, none⟩ v') := by
  have k1 : Kp [5] W1 W2 := Kp.grown hg fun k hk => by
    obtain ⟨_, cs, fr, h⟩ := hrow k hk
    exact ⟨cs, 5, fr, h, by simp⟩
  have hc2 : HasC W2 b 43 (pcs (ptr b) v t) := hc.kp k1 (by decide)
  refine ⟨⟨⟨_, v', .inr rfl, hc2.set 1 v', own_set hown hc2 (by decide) 1 _⟩, hb, ?_⟩, (k1.mono (by simp)).trans (Kp.set hc2 (by simp) 1 _)⟩
  exact (ho.grown hg ho.size (fun k hk => (hrow k hk).1)).setCell (p := ⟨b, 1, none⟩) hb _

theorem own_row {W : World} {base : Nat} {v : Value} {n : Nat} {xs : List Value} (h : W.ownsRow base 5 1 v n xs) : ∀ k, v.ownBlock = some k → base ≤ k ∧ ∃ cs fr, W.heap[k]? = some (.cells cs 5 fr) := owns_block h

theorem strCells_eq (s : ByteArray) : Lib.strCells s = Lib.byteCells (bs s) := rfl

set_option maxHeartbeats 2000000 in
set_option maxRecDepth 100000 in
theorem writeString_any {w W : World} {b : Nat} {t : Tv} {out : List UInt8} (h : Pb w W b t out) (s : ByteArray) (hlen : out.length + (bs s).length ≤ 1099511627776) :
    Calls Tryd.prog 20 #[ptr b, .string s] W fun e W' => e = .returned (.tuple #[.int .i64 s.size, .nilIface]) ∧ Pb w W' b t (out ++ bs s) ∧ Kp SP W W' := by
  obtain ⟨i0, hi, hz0, hz1, hz2⟩ := info_parts info5
  have hls : s.size = (bs s).length := (bs_len s).symm
  have HB := hide h.base
  have HC := hide (copyCheck_any h)
  have HL := hide hlen
  have HS := hide hls
  clear h hlen hls
  go_enter Tryd.func20, Tryd.ntmps20
  go_wp2_with fail
  refine HC.out.mono ?_
  rintro e W1 ⟨rfl, ⟨v, hc, hown⟩, ho, hk⟩
  have c0 := hc.cell 0 rfl
  have c1 := hc.cell 1 rfl
  go_wp2_with (at_builtin; refine Lib.wpList_append_own_string _ rfl _ _ 39 9 rfl w.heap.size 5 i0 Tryd.underlying39 Tryd.underlying9 hi hz0 hz1 hz2 _ _ _ rfl hown s rfl ?c3 ?c4 ?c5 ?_)
  case c3 => have := HL.out; have := HS.out; unfold maxLen; omega
  case c4 => have := HL.out; have := HS.out; omega
  case c5 => exact ho.size
  intro v' W2 hown' hgrow _
  have hrow := own_row hown
  obtain ⟨hP, hK⟩ := Pb.put (out' := out ++ bs s) hc HB.out ho hgrow (fun k hk => hrow k hk) (by rw [List.length_append, Lib.byteCells_append, ← strCells_eq, ← HS.out]; exact hown')
  have k1 : Kp [5] W1 W2 := Kp.grown hgrow fun k hk => by
    obtain ⟨_, cs, fr, h⟩ := hrow k hk
    exact ⟨cs, 5, fr, h, by simp⟩
  have hc2 : HasC W2 b 43 (pcs (ptr b) v t) := hc.kp k1 (by decide)
  have d1 := hc2.cell 1 rfl
  have f1 := hc2.frozen 1
  have HP := hide hP
  have HK := hide (hk.trans hK)
  clear hP hK
  obtain ⟨ao, n', cap, rfl⟩ : ∃ ao n' cap, v' = .slice ao n' cap := by
    rcases hown'.2 with ⟨hv, _⟩ | ⟨g, cap, cur, hv, _⟩
    · exact ⟨_, _, _, hv⟩
    · exact ⟨_, _, _, hv⟩
  go_wp2
  go_ret2
  exact ⟨rfl, HP.out, HK.out⟩

set_option maxHeartbeats 2000000 in
set_option maxRecDepth 100000 in
theorem writeByte_any {w W : World} {b : Nat} {t : Tv} {out : List UInt8} (h : Pb w W b t out) (c : Nat) (hc8 : c < 256) (hlen : out.length + 1 ≤ 1099511627776) :
    Calls Tryd.prog 21 #[ptr b, .int .u8 c] W fun e W' => e = .returned .nilIface ∧ Pb w W' b t (out ++ [UInt8.ofNat c]) ∧ Kp SP W W' := by
  obtain ⟨i0, hi, hz0, hz1, hz2⟩ := info_parts info5
  have HB := hide h.base
  have HC := hide (copyCheck_any h)
  have HL := hide hlen
  have H8 := hide hc8
  clear h hlen hc8
  go_enter Tryd.func21, Tryd.ntmps21
  go_wp2_with fail
  refine HC.out.mono ?_
  rintro e W1 ⟨rfl, ⟨v, hc, hown⟩, ho, hk⟩
  have c0 := hc.cell 0 rfl
  have c1 := hc.cell 1 rfl
  go_wp2_with (at_builtin; refine wpList_append_own _ rfl _ _ 39 rfl w.heap.size 5 i0 (.int .u8 0) 1 1 Tryd.underlying39 hi hz0 hz1 hz2 rfl (by decide) _ _ _ rfl (hown.alloc _) ⟨W1.heap.size, 0, none⟩ 1 1 [.int .u8 c] rfl rfl ?c1 ?c2 ?c3 ?c4 ?c5 ?_)
  case c1 =>
    intro j u hj
    match j, hj with
    | 0, hj => simp at hj; subst hj; simp [Addr.add]
  case c2 => intro u hu; simp at hu; subst hu; rfl
  case c3 => have := HL.out; unfold maxLen; omega
  case c4 => have := HL.out; omega
  case c5 => have := ho.size; simp; omega
  intro v' W2 hown' hgrow _
  have hcA := hc.alloc (.cells #[.int .u8 c] 5)
  have hoA := ho.alloc ho.size (.cells #[.int .u8 c] 5)
  have hrow := own_row (hown.alloc (.cells #[.int .u8 c] 5))
  have hkA : Kp SP W1 (W1.alloc (.cells #[.int .u8 c] 5)) := Kp.of_below _ (bel1 _ _)
  have e8 : (UInt8.ofNat c).toNat = c := UInt8.toNat_ofNat_of_lt H8.out
  obtain ⟨hP, hK⟩ := Pb.put (out' := out ++ [UInt8.ofNat c]) hcA HB.out hoA hgrow (fun k hk => hrow k hk) (by rw [List.length_append, Lib.byteCells_append, show Lib.byteCells [UInt8.ofNat c] = [.int .u8 c] by simp only [Lib.byteCells, List.map_cons, List.map_nil, e8]]; exact hown')
  have k1 : Kp [5] (W1.alloc (.cells #[.int .u8 c] 5)) W2 := Kp.grown hgrow fun k hk => by
    obtain ⟨_, cs, fr, h⟩ := hrow k hk
    exact ⟨cs, 5, fr, h, by simp⟩
  have hc2 : HasC W2 b 43 (pcs (ptr b) v t) := hcA.kp k1 (by decide)
  have d1 := hc2.cell 1 rfl
  have f1 := hc2.frozen 1
  have HP := hide hP
  have HK := hide ((hk.trans hkA).trans hK)
  clear hP hK e8
  obtain ⟨ao, n', cap, rfl⟩ : ∃ ao n' cap, v' = .slice ao n' cap := by
    rcases hown'.2 with ⟨hv, _⟩ | ⟨g, cap, cur, hv, _⟩
    · exact ⟨_, _, _, hv⟩
    · exact ⟨_, _, _, hv⟩
  go_wp2
  go_ret
  exact ⟨rfl, HP.out, HK.out⟩

set_option maxHeartbeats 1000000 in
set_option maxRecDepth 100000 in
theorem len_any {w W : World} {b : Nat} {t : Tv} {out : List UInt8} (h : Pb w W b t out) :
    Calls Tryd.prog 12 #[ptr b] W fun e W' => e = .returned (.int .i64 out.length) ∧ W' = W := by
  obtain ⟨p, v, hp, hc, ho⟩ := h.ex
  obtain ⟨ao, cap, rfl⟩ : ∃ ao cap, v = .slice ao out.length cap := by
    rcases ho.2 with ⟨hv, h0⟩ | ⟨g, cap, cur, hv, _⟩
    · exact ⟨none, 0, by rw [hv, h0]⟩
    · exact ⟨_, _, hv⟩
  have c1 := hc.cell 1 rfl
  clear hc ho hp h
  go_enter Tryd.func12, Tryd.ntmps12
  go_wp2
  go_ret
  exact ⟨rfl, rfl⟩

theorem cells5 : Tryd.prog.cellsOf 5 = 1 := by kernel_rfl

set_option maxHeartbeats 1000000 in
set_option maxRecDepth 100000 in
/-- String, of a builder that holds a byte. -/
theorem string_any {w W : World} {b : Nat} {t : Tv} {out : List UInt8} (h : Pb w W b t out) (h0 : out ≠ []) :
    Calls Tryd.prog 13 #[ptr b] W fun e W' => e = .returned (.string (sB out)) ∧ Below w.heap.size w W' := by
  obtain ⟨p, v, hp, hc, hown⟩ := h.ex
  have hl0 : out.length ≠ 0 := by simpa using h0
  obtain ⟨g, cap, cur, rfl, hbg, hg, hnc, hcm, hcs, htake⟩ : ∃ g cap cur, v = .slice (some ⟨g, 0, none⟩) out.length cap ∧ w.heap.size ≤ g ∧ W.heap[g]? = some (.cells cur 5 (0, 0)) ∧ out.length ≤ cap ∧ cap ≤ maxLen ∧ cur.size = cap * 1 ∧ cur.toList.take (out.length * 1) = Lib.byteCells out := by
    rcases hown.2 with ⟨_, hz⟩ | ⟨g, cap, cur, hv, r⟩
    · exact absurd hz hl0
    · exact ⟨g, cap, cur, hv, r⟩
  have c1 : W.drew.cell? ⟨b, 1, none⟩ = some (.slice (some ⟨g, 0, none⟩) out.length cap) := hc.cell 1 rfl
  have hSD : (Builtin.unsafeSliceData_ #[39] 63 #[.slice (some ⟨g, 0, none⟩) out.length cap]).run Tryd.prog W.drew = .ok (.pointer (some ⟨g, 0, none⟩)) W.drew :=
    Lib.run_unsafeSliceData_row _ _ _ _ _ _ (by omega)
  have hUS : (Builtin.unsafeString_ #[63, 3] 9 #[.pointer (some ⟨g, 0, none⟩), .int .i64 out.length]).run Tryd.prog W.drew = .ok (.string (sB out)) (W.drew.freeze ⟨g, 0, none⟩ out.length) := by
    refine Lib.run_unsafeString_row W.drew 63 3 9 5 Tryd.underlying63 cells5 g cur.size (by have hg' : W.drew.heap[g]? = some (.cells cur 5 (0, 0)) := hg; simp [World.shape?, hg']) out h0 (by omega) (by unfold maxLen at hcm; omega) ?_
    intro j x hx
    exact hown.cells (g := g) rfl j (.int .u8 x.toNat) (by simp [Lib.byteCells, hx])
  have HB := hide (Lib.below_freeze (Below.drew h.old) (p := ⟨g, 0, none⟩) hbg out.length)
  clear hc hown hg hnc hcm hcs htake hp h h0 hl0 hbg
  go_enter Tryd.func13, Tryd.ntmps13
  go_wp2
  go_region
  all_goals (go_wp2; go_ret; exact ⟨rfl, HB.out⟩)

end Go.Proofs.YtodgjjkpbcadoaaDoor
