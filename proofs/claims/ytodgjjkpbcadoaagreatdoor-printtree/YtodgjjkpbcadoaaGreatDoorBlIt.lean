/-
  The printer's builder, which lies in the printer's own block: what each of its methods leaves.
-/
import Derived.Test.YtodgjjkpbcadoaaGreatDoorRdRn
import Derived.Lib.Builder
import Derived.Lib.AppendStr
import Derived.Lib.UnsafeStr
import Derived.Laws.Externs
import Derived.Shelf.Small.Strs
import Derived.Shelf.Strconv.Itoa0
import Derived.Shelf.Strconv.Itoa1
import Derived.Shelf.LaysM
import Derived.Shelf.Strconv.Itoa2
import Derived.Shelf.Strconv.Itoa3
import Derived.Shelf.Strings.Search1
import Derived.Test.YtodgjjkpbcadoaaGreatDoorProg
import Derived.StillTail
import Derived.Lib.QuietBelow
namespace Go.Proofs.YtodgjjkpbcadoaaGreatDoor
open Go.RowKit Go.IntWalk Lx Pz
set_option linter.unusedVariables false

/-- The tree's cells in the printer's block. -/
structure Tv where
  nv : Value
  bv : Value
  dv : Value
  rv : Value

abbrev pcs (p v : Value) (t : Tv) : Array Value := #[p, v, t.nv, t.bv, t.dv, t.rv]

/-- A printer in block b that holds these bytes; what lay ahead of w is as it was. -/
structure Pb (w W : World) (b : Nat) (t : Tv) (out : List UInt8) : Prop where
  ex : ∃ p v, (p = .pointer none ∨ p = .pointer (some ⟨b, 0, none⟩)) ∧ HasC W b 46 (pcs p v t) ∧ W.ownsRow w.heap.size 5 1 v out.length (Lib.byteCells out)
  base : w.heap.size ≤ b
  old : Below w.heap.size w W

/-- What the printer's methods write to: printers and rows of bytes. -/
abbrev SP : List TypeId := [46, 5]

theorem Pb.later {w W W' : World} {b : Nat} {t : Tv} {out : List UInt8} (h : Pb w W b t out) (hb : Below W.heap.size W W') : Pb w W' b t out := by
  obtain ⟨p, v, hp, hc, ho⟩ := h.ex
  have hk := Kp.of_below [] hb
  exact ⟨⟨p, v, hp, hc.kp hk (by simp), owns_kp ho hk (by simp)⟩, h.base, bel h.old hb⟩

theorem infoBu : (Tryz.prog.info? 44).map (fun i => i.size) = some 2 := by kernel_rfl
theorem liesBu : liesAt Tryz.prog Tryz.prog.depth 46 (6 / Tryz.prog.cellsOf 46) 0 44 1 = true := by kernel_rfl
theorem info5 : (Tryz.prog.info? 5).map (fun i => (i.zero, i.size, i.bytes)) = some (some (.int .u8 0), 1, 1) := by kernel_rfl

set_option maxHeartbeats 1000000 in
set_option maxRecDepth 100000 in
theorem copyCheck_used {W : World} {b : Nat} (h0 : W.cell? ⟨b, 0, none⟩ = some (.pointer (some ⟨b, 0, none⟩))) :
    Calls Tryz.prog 42 #[ptr b] W fun e W' => e = .returned (.tuple #[]) ∧ W' = W := by
  obtain ⟨j, hj, _⟩ := Option.map_eq_some_iff.1 infoBu
  go_enter Tryz.func42, Tryz.ntmps42
  go_wp2
  rw [Lib.run_neq_ptr_same W _ Tryz.underlying41 hj]
  go_wp2
  go_end0
  exact ⟨rfl, rfl⟩

set_option maxHeartbeats 1000000 in
set_option maxRecDepth 100000 in
theorem copyCheck_fresh {W : World} {b : Nat} {v : Value} {t : Tv} (hc : HasC W b 46 (pcs (.pointer none) v t)) :
    Calls Tryz.prog 42 #[ptr b] W fun e W' => e = .returned (.tuple #[]) ∧ W' = W.setCell ⟨b, 0, none⟩ (.pointer (some ⟨b, 0, none⟩)) := by
  obtain ⟨j, hj, hjs⟩ := Option.map_eq_some_iff.1 infoBu
  have h0 := hc.cell 0 rfl
  have hfz := hc.frozen 0
  have hsh : W.shape? b = some (46, 6) := by
    have : W.heap[b]? = some (.cells (pcs (.pointer none) v t) 46 (0, 0)) := hc
    simp [World.shape?, this]
  have HC := hide hc
  clear hc
  go_enter Tryz.func42, Tryz.ntmps42
  go_wp2
  rw [Lib.run_to_unsafe W ⟨b, 0, none⟩ Tryz.underlying41 Tryz.underlying97 hj (by rw [hjs]; decide) hsh (Nat.zero_lt_succ 5)]
  simp only [Result.andThen]
  rw [Oper.upon_value]
  go_wp2
  rw [run_callFunc_extern Tryz.func66 (by kernel_rfl) (by kernel_rfl) (by kernel_rfl) (e := Extern.AbiNoEscape.same) (by kernel_rfl)]
  rw [Lib.run_noEscape]
  simp only [Result.andThen]
  rw [Oper.upon_value]
  go_wp2
  rw [Lib.run_from_unsafe W ⟨b, 0, none⟩ Tryz.underlying97 Tryz.underlying41 hj hsh liesBu]
  simp only [Result.andThen]
  rw [Oper.upon_value]
  go_wp2
  go_end0
  exact ⟨rfl, rfl⟩

theorem own_set {W : World} {base b : Nat} {t : TypeId} {cs : Array Value} {v : Value} {n : Nat} {xs : List Value} (h : W.ownsRow base 5 1 v n xs) (hc : HasC W b t cs) (ht : t ≠ 5) (i : Nat) (u : Value) : (W.setCell ⟨b, i, none⟩ u).ownsRow base 5 1 v n xs :=
  owns_kp h (Kp.set (S := [t]) hc (by simp) i u) (by simpa using Ne.symm ht)

/-- What copyCheck leaves: a printer whose builder knows its own address. -/
theorem copyCheck_any {w W : World} {b : Nat} {t : Tv} {out : List UInt8} (h : Pb w W b t out) :
    Calls Tryz.prog 42 #[ptr b] W fun e W' => e = .returned (.tuple #[]) ∧ (∃ v, HasC W' b 46 (pcs (ptr b) v t) ∧ W'.ownsRow w.heap.size 5 1 v out.length (Lib.byteCells out)) ∧ Below w.heap.size w W' ∧ Kp SP W W' := by
  obtain ⟨p, v, rfl | rfl, hc, ho⟩ := h.ex
  · refine (copyCheck_fresh hc).mono ?_
    rintro e W' ⟨rfl, rfl⟩
    exact ⟨rfl, ⟨v, hc.set 0 _, own_set ho hc (by decide) 0 _⟩, h.old.setCell (p := ⟨b, 0, none⟩) h.base _, Kp.set hc (by simp) 0 _⟩
  · refine (copyCheck_used (hc.cell 0 rfl)).mono ?_
    rintro e W' ⟨rfl, rfl⟩
    exact ⟨rfl, ⟨v, hc, ho⟩, h.old, Kp.refl _ _⟩

/-- A new buffer laid into the builder. -/
theorem Pb.put {w W1 W2 : World} {b : Nat} {t : Tv} {v v' : Value} {row : Option Nat} {out' : List UInt8} (hc : HasC W1 b 46 (pcs (ptr b) v t)) (hb : w.heap.size ≤ b) (ho : Below w.heap.size w W1) (hg : W1.grownBy W2 row)
    (hrow : ∀ k, row = some k → w.heap.size ≤ k ∧ ∃ cs fr, W1.heap[k]? = some (.cells cs 5 fr)) (hown : W2.ownsRow w.heap.size 5 1 v' out'.length (Lib.byteCells out')) :
    Pb w (W2.setCell ⟨b, 1, none⟩ v') b t out' ∧ Kp SP W1 (W2.setCell ⟨b, 1, none⟩ v') := by
  have k1 : Kp [5] W1 W2 := Kp.grown hg fun k hk => by
    obtain ⟨_, cs, fr, h⟩ := hrow k hk
    exact ⟨cs, 5, fr, h, by simp⟩
  have hc2 : HasC W2 b 46 (pcs (ptr b) v t) := hc.kp k1 (by decide)
  refine ⟨⟨⟨_, v', .inr rfl, hc2.set 1 v', own_set hown hc2 (by decide) 1 _⟩, hb, ?_⟩, (k1.mono (by simp)).trans (Kp.set hc2 (by simp) 1 _)⟩
  exact (ho.grown hg ho.size (fun k hk => (hrow k hk).1)).setCell (p := ⟨b, 1, none⟩) hb _

theorem own_row {W : World} {base : Nat} {v : Value} {n : Nat} {xs : List Value} (h : W.ownsRow base 5 1 v n xs) : ∀ k, v.ownBlock = some k → base ≤ k ∧ ∃ cs fr, W.heap[k]? = some (.cells cs 5 fr) := owns_block h

theorem strCells_eq (s : ByteArray) : Lib.strCells s = Lib.byteCells (bs s) := rfl

set_option maxHeartbeats 2000000 in
set_option maxRecDepth 100000 in
theorem writeString_any {w W : World} {b : Nat} {t : Tv} {out : List UInt8} (h : Pb w W b t out) (s : ByteArray) (hlen : out.length + (bs s).length ≤ 1099511627776) :
    Calls Tryz.prog 21 #[ptr b, .string s] W fun e W' => e = .returned (.tuple #[.int .i64 s.size, .nilIface]) ∧ Pb w W' b t (out ++ bs s) ∧ Kp SP W W' := by
  obtain ⟨i0, hi, hz0, hz1, hz2⟩ := info_parts info5
  have hls : s.size = (bs s).length := (bs_len s).symm
  have HB := hide h.base
  have HC := hide (copyCheck_any h)
  have HL := hide hlen
  have HS := hide hls
  clear h hlen hls
  go_enter Tryz.func21, Tryz.ntmps21
  go_wp2_with fail
  refine HC.out.mono ?_
  rintro e W1 ⟨rfl, ⟨v, hc, hown⟩, ho, hk⟩
  have c0 := hc.cell 0 rfl
  have c1 := hc.cell 1 rfl
  go_wp2_with (at_builtin; refine Lib.wpList_append_own_string _ rfl _ _ 42 9 rfl w.heap.size 5 i0 Tryz.underlying42 Tryz.underlying9 hi hz0 hz1 hz2 _ _ _ rfl hown s rfl ?c3 ?c4 ?c5 ?_)
  case c3 => have := HL.out; have := HS.out; unfold maxLen; omega
  case c4 => have := HL.out; have := HS.out; omega
  case c5 => exact ho.size
  intro v' W2 hown' hgrow _
  have hrow := own_row hown
  obtain ⟨hP, hK⟩ := Pb.put (out' := out ++ bs s) hc HB.out ho hgrow (fun k hk => hrow k hk) (by rw [List.length_append, Lib.byteCells_append, ← strCells_eq, ← HS.out]; exact hown')
  have k1 : Kp [5] W1 W2 := Kp.grown hgrow fun k hk => by
    obtain ⟨_, cs, fr, h⟩ := hrow k hk
    exact ⟨cs, 5, fr, h, by simp⟩
  have hc2 : HasC W2 b 46 (pcs (ptr b) v t) := hc.kp k1 (by decide)
  have d1 := hc2.cell 1 rfl
  have f1 := hc2.frozen 1
  have HP := hide hP
  have HK := hide (hk.trans hK)
  clear hP hK
  obtain ⟨ao, n', cap, rfl⟩ : ∃ ao n' cap, v' = .slice ao n' cap := by
    rcases hown'.2 with ⟨hv, _⟩ | ⟨g, cap, cur, hv, _⟩
    · exact ⟨_, _, _, hv⟩
    · exact ⟨_, _, _, hv⟩
  go_wp2
  go_ret2
  exact ⟨rfl, HP.out, HK.out⟩

set_option maxHeartbeats 2000000 in
set_option maxRecDepth 100000 in
theorem writeByte_any {w W : World} {b : Nat} {t : Tv} {out : List UInt8} (h : Pb w W b t out) (c : Nat) (hc8 : c < 256) (hlen : out.length + 1 ≤ 1099511627776) :
    Calls Tryz.prog 22 #[ptr b, .int .u8 c] W fun e W' => e = .returned .nilIface ∧ Pb w W' b t (out ++ [UInt8.ofNat c]) ∧ Kp SP W W' := by
  obtain ⟨i0, hi, hz0, hz1, hz2⟩ := info_parts info5
  have HB := hide h.base
  have HC := hide (copyCheck_any h)
  have HL := hide hlen
  have H8 := hide hc8
  clear h hlen hc8
  go_enter Tryz.func22, Tryz.ntmps22
  go_wp2_with fail
  refine HC.out.mono ?_
  rintro e W1 ⟨rfl, ⟨v, hc, hown⟩, ho, hk⟩
  have c0 := hc.cell 0 rfl
  have c1 := hc.cell 1 rfl
  go_wp2_with (at_builtin; refine wpList_append_own _ rfl _ _ 42 rfl w.heap.size 5 i0 (.int .u8 0) 1 1 Tryz.underlying42 hi hz0 hz1 hz2 rfl (by decide) _ _ _ rfl (hown.alloc _) ⟨W1.heap.size, 0, none⟩ 1 1 [.int .u8 c] rfl rfl ?c1 ?c2 ?c3 ?c4 ?c5 ?_)
  case c1 =>
    intro j u hj
    match j, hj with
    | 0, hj => simp at hj; subst hj; simp [Addr.add]
  case c2 => intro u hu; simp at hu; subst hu; rfl
  case c3 => have := HL.out; unfold maxLen; omega
  case c4 => have := HL.out; omega
  case c5 => have := ho.size; simp; omega
  intro v' W2 hown' hgrow _
  have hcA := hc.alloc (.cells #[.int .u8 c] 5)
  have hoA := ho.alloc ho.size (.cells #[.int .u8 c] 5)
  have hrow := own_row (hown.alloc (.cells #[.int .u8 c] 5))
  have hkA : Kp SP W1 (W1.alloc (.cells #[.int .u8 c] 5)) := Kp.of_below _ (bel1 _ _)
  have e8 : (UInt8.ofNat c).toNat = c := UInt8.toNat_ofNat_of_lt H8.out
  obtain ⟨hP, hK⟩ := Pb.put (out' := out ++ [UInt8.ofNat c]) hcA HB.out hoA hgrow (fun k hk => hrow k hk) (by rw [List.length_append, Lib.byteCells_append, show Lib.byteCells [UInt8.ofNat c] = [.int .u8 c] by simp only [Lib.byteCells, List.map_cons, List.map_nil, e8]]; exact hown')
  have k1 : Kp [5] (W1.alloc (.cells #[.int .u8 c] 5)) W2 := Kp.grown hgrow fun k hk => by
    obtain ⟨_, cs, fr, h⟩ := hrow k hk
    exact ⟨cs, 5, fr, h, by simp⟩
  have hc2 : HasC W2 b 46 (pcs (ptr b) v t) := hcA.kp k1 (by decide)
  have d1 := hc2.cell 1 rfl
  have f1 := hc2.frozen 1
  have HP := hide hP
  have HK := hide ((hk.trans hkA).trans hK)
  clear hP hK e8
  obtain ⟨ao, n', cap, rfl⟩ : ∃ ao n' cap, v' = .slice ao n' cap := by
    rcases hown'.2 with ⟨hv, _⟩ | ⟨g, cap, cur, hv, _⟩
    · exact ⟨_, _, _, hv⟩
    · exact ⟨_, _, _, hv⟩
  go_wp2
  go_ret
  exact ⟨rfl, HP.out, HK.out⟩

set_option maxHeartbeats 1000000 in
set_option maxRecDepth 100000 in
theorem len_any {w W : World} {b : Nat} {t : Tv} {out : List UInt8} (h : Pb w W b t out) :
    Calls Tryz.prog 12 #[ptr b] W fun e W' => e = .returned (.int .i64 out.length) ∧ W' = W := by
  obtain ⟨p, v, hp, hc, ho⟩ := h.ex
  obtain ⟨ao, cap, rfl⟩ : ∃ ao cap, v = .slice ao out.length cap := by
    rcases ho.2 with ⟨hv, h0⟩ | ⟨g, cap, cur, hv, _⟩
    · exact ⟨none, 0, by rw [hv, h0]⟩
    · exact ⟨_, _, hv⟩
  have c1 := hc.cell 1 rfl
  clear hc ho hp h
  go_enter Tryz.func12, Tryz.ntmps12
  go_wp2
  go_ret
  exact ⟨rfl, rfl⟩

theorem cells5 : Tryz.prog.cellsOf 5 = 1 := by kernel_rfl

set_option maxHeartbeats 1000000 in
set_option maxRecDepth 100000 in
/-- String, of a builder that holds a byte. -/
theorem string_any {w W : World} {b : Nat} {t : Tv} {out : List UInt8} (h : Pb w W b t out) (h0 : out ≠ []) :
    Calls Tryz.prog 13 #[ptr b] W fun e W' => e = .returned (.string (sB out)) ∧ Below w.heap.size w W' := by
  obtain ⟨p, v, hp, hc, hown⟩ := h.ex
  have hl0 : out.length ≠ 0 := by simpa using h0
  obtain ⟨g, cap, cur, rfl, hbg, hg, hnc, hcm, hcs, htake⟩ : ∃ g cap cur, v = .slice (some ⟨g, 0, none⟩) out.length cap ∧ w.heap.size ≤ g ∧ W.heap[g]? = some (.cells cur 5 (0, 0)) ∧ out.length ≤ cap ∧ cap ≤ maxLen ∧ cur.size = cap * 1 ∧ cur.toList.take (out.length * 1) = Lib.byteCells out := by
    rcases hown.2 with ⟨_, hz⟩ | ⟨g, cap, cur, hv, r⟩
    · exact absurd hz hl0
    · exact ⟨g, cap, cur, hv, r⟩
  have c1 : W.drew.cell? ⟨b, 1, none⟩ = some (.slice (some ⟨g, 0, none⟩) out.length cap) := hc.cell 1 rfl
  have hSD : (Builtin.unsafeSliceData_ #[42] 60 #[.slice (some ⟨g, 0, none⟩) out.length cap]).run Tryz.prog W.drew = .ok (.pointer (some ⟨g, 0, none⟩)) W.drew :=
    Lib.run_unsafeSliceData_row _ _ _ _ _ _ (by omega)
  have hUS : (Builtin.unsafeString_ #[60, 3] 9 #[.pointer (some ⟨g, 0, none⟩), .int .i64 out.length]).run Tryz.prog W.drew = .ok (.string (sB out)) (W.drew.freeze ⟨g, 0, none⟩ out.length) := by
    refine Lib.run_unsafeString_row W.drew 60 3 9 5 Tryz.underlying60 cells5 g cur.size (by have hg' : W.drew.heap[g]? = some (.cells cur 5 (0, 0)) := hg; simp [World.shape?, hg']) out h0 (by omega) (by unfold maxLen at hcm; omega) ?_
    intro j x hx
    exact hown.cells (g := g) rfl j (.int .u8 x.toNat) (by simp [Lib.byteCells, hx])
  have HB := hide (Lib.below_freeze (Below.drew h.old) (p := ⟨g, 0, none⟩) hbg out.length)
  clear hc hown hg hnc hcm hcs htake hp h h0 hl0 hbg
  go_enter Tryz.func13, Tryz.ntmps13
  go_wp2
  go_region
  all_goals (go_wp2; go_ret; exact ⟨rfl, HB.out⟩)

end Go.Proofs.YtodgjjkpbcadoaaGreatDoor

/-
  strconv.Itoa by its contract in the library: the numbers of this program, and one application.
-/
namespace Go.Proofs
open Go.Shelf
def Tryz.laysM171_ren : Go.Shelf.Ren := ⟨fun | 171 => 67 | 243 => 80 | 246 => 87 | 283 => 90 | 284 => 91 | 285 => 92 | 286 => 93 | 129 => 98 | 317 => 97 | 318 => 99 | 319 => 100 | 320 => 101 | 337 => 105 | 338 => 106 | n => n, fun | 3 => 3 | 9 => 9 | 2 => 2 | 4 => 4 | 171 => 117 | 0 => 0 | 53 => 118 | 37 => 42 | 5 => 5 | 173 => 121 | 212 => 124 | 51 => 125 | 20 => 20 | 213 => 126 | 46 => 127 | 232 => 130 | 233 => 131 | n => n, fun | 17 => 2 | 18 => 4 | 19 => 5 | n => n⟩
theorem Tryz.laysM171 : Go.Proofs.LaysM.n171 Tryz.prog Tryz.laysM171_ren := {
  mixed := by kernel_rfl
  f129 := Tryz.func98.trans (congrArg some (by kernel_rfl))
  f171 := Tryz.func67.trans (congrArg some (by kernel_rfl))
  f243 := Tryz.func80.trans (congrArg some (by kernel_rfl))
  f246 := Tryz.func87.trans (congrArg some (by kernel_rfl))
  f283 := Tryz.func90.trans (congrArg some (by kernel_rfl))
  f284 := Tryz.func91.trans (congrArg some (by kernel_rfl))
  f285 := Tryz.func92.trans (congrArg some (by kernel_rfl))
  f286 := Tryz.func93.trans (congrArg some (by kernel_rfl))
  f317 := Tryz.func97.trans (congrArg some (by kernel_rfl))
  f318 := Tryz.func99.trans (congrArg some (by kernel_rfl))
  f319 := Tryz.func100.trans (congrArg some (by kernel_rfl))
  f320 := Tryz.func101.trans (congrArg some (by kernel_rfl))
  f337 := Tryz.func105.trans (congrArg some (by kernel_rfl))
  f338 := Tryz.func106.trans (congrArg some (by kernel_rfl))
  t0 := Tryz.underlying0
  a0 := Tryz.isAgg0
  z0 := Tryz.sizeOf0
  v0 := Tryz.zeroValue0
  t2 := Tryz.underlying2
  a2 := Tryz.isAgg2
  z2 := Tryz.sizeOf2
  v2 := Tryz.zeroValue2
  t3 := Tryz.underlying3
  a3 := Tryz.isAgg3
  z3 := Tryz.sizeOf3
  v3 := Tryz.zeroValue3
  t4 := Tryz.underlying4
  a4 := Tryz.isAgg4
  z4 := Tryz.sizeOf4
  v4 := Tryz.zeroValue4
  t5 := Tryz.underlying5
  a5 := Tryz.isAgg5
  z5 := Tryz.sizeOf5
  v5 := Tryz.zeroValue5
  t9 := Tryz.underlying9
  a9 := Tryz.isAgg9
  z9 := Tryz.sizeOf9
  v9 := Tryz.zeroValue9
  t20 := Tryz.underlying20
  a20 := Tryz.isAgg20
  z20 := Tryz.sizeOf20
  v20 := Tryz.zeroValue20
  t37 := Tryz.underlying42
  a37 := Tryz.isAgg42
  z37 := Tryz.sizeOf42
  v37 := Tryz.zeroValue42
  t46 := Tryz.underlying127
  a46 := Tryz.isAgg127
  z46 := Tryz.sizeOf127
  v46 := Tryz.zeroValue127
  t51 := Tryz.underlying125
  a51 := Tryz.isAgg125
  z51 := Tryz.sizeOf125
  v51 := Tryz.zeroValue125
  t53 := Tryz.underlying118
  a53 := Tryz.isAgg118
  z53 := Tryz.sizeOf118
  v53 := Tryz.zeroValue118
  t171 := Tryz.underlying117
  a171 := Tryz.isAgg117
  z171 := Tryz.sizeOf117
  v171 := Tryz.zeroValue117
  t173 := Tryz.underlying121
  a173 := Tryz.isAgg121
  z173 := Tryz.sizeOf121
  v173 := Tryz.zeroValue121
  t212 := Tryz.underlying124
  a212 := Tryz.isAgg124
  z212 := Tryz.sizeOf124
  v212 := Tryz.zeroValue124
  t213 := Tryz.underlying126
  a213 := Tryz.isAgg126
  z213 := Tryz.sizeOf126
  t232 := Tryz.underlying130
  a232 := Tryz.isAgg130
  z232 := Tryz.sizeOf130
  v232 := Tryz.zeroValue130
  t233 := Tryz.underlying131
  a233 := Tryz.isAgg131
  z233 := Tryz.sizeOf131
  v233 := Tryz.zeroValue131
  g17 := by kernel_rfl
  g18 := by kernel_rfl
  g19 := by kernel_rfl
  i0 := by kernel_rfl
  i2 := by kernel_rfl
  i3 := by kernel_rfl
  i4 := by kernel_rfl
  i5 := by kernel_rfl
  i9 := by kernel_rfl
  i20 := by kernel_rfl
  i37 := by kernel_rfl
  i46 := by kernel_rfl
  i51 := by kernel_rfl
  i53 := by kernel_rfl
  i171 := by kernel_rfl
  i173 := by kernel_rfl
  i212 := by kernel_rfl
  i232 := by kernel_rfl
  i233 := by kernel_rfl
  m17 := by kernel_rfl
  m18 := by kernel_rfl
  m19 := by kernel_rfl }
open Go.RowKit Go.Sort Go.Lib in
theorem Tryz.strconv_Itoa (n : Int) (h0 : -9223372036854775808 ≤ n) (h1 : n ≤ 9223372036854775807) (w : World) (htab : Lib.TabIs Tryz.prog w "internal/strconv.uint64pow10" .u64 Lib.pow10Tab) :
    Calls Tryz.prog 67 #[.int .i64 n] w fun e w' => e = .returned (.string ⟨(Lib.itoa n).toArray⟩) ∧ ∃ k os, w' = grow (w.drewN k) os := Any.strconv_Itoa Tryz.laysM171 n h0 h1 w htab
end Go.Proofs

/-
  A region that draws its order, whose last operation waits for all the others, and whose others are quiet: one walk of the others in the order of the text, and then the last one.
-/
namespace Go.Proofs.YtodgjjkpbcadoaaGreatDoor
open Go.RowKit Go.Sort Go
set_option linter.unusedVariables false

/-- Every operation waits only for operations that stand ahead of it. -/
def backB (ops : Array Oper) : Bool := (List.range ops.size).all fun j => ((ops[j]?).map fun o => o.after.all fun e => decide (e.on < j)).getD true
theorem backB_spec {ops : Array Oper} (h : backB ops = true) {j : Nat} {o : Oper} (ho : ops[j]? = some o) : ∀ e ∈ o.after, e.on < j := by
  intro e he
  have hj : j < ops.size := (Array.getElem?_eq_some_iff.1 ho).1
  have h1 := List.all_eq_true.1 h j (List.mem_range.2 hj)
  rw [ho] at h1
  simp only [Option.map_some, Option.getD_some] at h1
  simpa using Array.all_eq_true'.1 h1 e he
/-- Every guard stands among the first n. -/
def guardB (l : List Oper) : Bool := l.all fun o => match o.guard with | none => true | some (j, _) => decide (j < l.length)

theorem getD_in' {listed : Array Bool} {i : Nat} (hi : i < listed.size) (h : listed.getD i false ≠ true) : listed.getD i true = false := by
  simp [hi] at h ⊢; exact h

/-- Where something has not come up, something may come up. -/
theorem ready_ne {ops : Array Oper} {listed : Array Bool} (hb : backB ops = true) (hsz : listed.size = ops.size) : ∀ j, j < ops.size → listed.getD j true = false → Region.ready .any ops listed ≠ [] := by
  intro j
  induction j using Nat.strongRecOn with
  | _ j ih =>
    intro hj hun h0
    obtain ⟨o, ho⟩ : ∃ o, ops[j]? = some o := ⟨ops[j], by simp [hj]⟩
    by_cases hall : ∀ e ∈ o.after, Region.binds .any e = true → listed.getD e.on false = true
    · have : j ∈ Region.ready .any ops listed := mem_ready.2 ⟨hun, o, ho, hall⟩
      rw [h0] at this; cases this
    · simp only [Classical.not_forall] at hall
      obtain ⟨e, he, hbi, hne⟩ := hall
      have hlt := backB_spec hb ho e he
      exact ih e.on hlt (by omega) (getD_in' (by omega) hne) h0

theorem getD_push {listed : Array Bool} (k : Nat) : (listed.push false).getD k false = listed.getD k false := by
  rcases Nat.lt_trichotomy k listed.size with h | h | h
  · simp [Array.getElem?_push, Nat.ne_of_lt h]
  · subst h; simp
  · simp [Array.getElem?_push, Nat.ne_of_gt h]
theorem getD_push_lt {listed : Array Bool} {k : Nat} (b : Bool) (h : k < listed.size) : (listed.push false).getD k b = listed.getD k b := by
  simp [Array.getElem?_push, Nat.ne_of_lt h]

theorem set_push {x : Array Bool} {i : Nat} (hi : i < x.size) : (x.push false).setIfInBounds i true = (x.setIfInBounds i true).push false := by
  apply Array.ext_getElem?
  intro j
  rw [Array.getElem?_setIfInBounds, Array.getElem?_push, Array.getElem?_push, Array.getElem?_setIfInBounds, Array.size_push, Array.size_setIfInBounds]
  by_cases hij : i = j
  · subst hij
    rw [if_pos rfl, if_pos (by omega), if_neg (by omega), if_pos rfl, if_pos hi]
  · rw [if_neg hij, if_neg hij]

section
variable {l : List Oper} {o : Oper}

theorem ops_lt {i : Nat} (h : i < l.length) : (l ++ [o]).toArray[i]? = l.toArray[i]? := by simp [List.getElem?_append_left h]
theorem ops_last : (l ++ [o]).toArray[l.length]? = some o := by simp

theorem ready_lt {listed : Array Bool} (hsz : listed.size = l.length) {i : Nat} (hi : i < l.length) : i ∈ Region.ready .any (l ++ [o]).toArray (listed.push false) ↔ i ∈ Region.ready .any l.toArray listed := by
  rw [mem_ready, mem_ready, ops_lt hi, getD_push_lt true (by omega)]
  simp only [getD_push]

theorem wanted_same (hg : guardB l = true) {x : Oper} (hx : x ∈ l) (t : Array Value) : Region.wanted x (yielded (l ++ [o]).toArray t) = Region.wanted x (yielded l.toArray t) := by
  have h1 := List.all_eq_true.1 hg x hx
  unfold Region.wanted
  split
  · rfl
  · rename_i j want hj
    rw [hj] at h1
    simp only [decide_eq_true_eq] at h1
    unfold yielded
    rw [ops_lt h1]

theorem qOp_same {P : Program} {C : World → Prop} (hg : guardB l = true) {i : Nat} (hi : i < l.length) {K : Act → Prop} {a : Act} (h : qOp P l.toArray C i K a) : qOp P (l ++ [o]).toArray C i K a := by
  unfold qOp at *
  rw [ops_lt hi]
  have hx : l.toArray[i]? = some l[i] := by simp [hi]
  rw [hx] at h ⊢
  simp only at h ⊢
  rw [wanted_same hg (List.getElem_mem hi)]
  exact h

theorem all_listed {listed : Array Bool} (h : ∀ j, j < listed.size → listed.getD j true = true) (ops : Array Oper) : Region.ready .any ops listed = [] := by
  apply List.eq_nil_iff_forall_not_mem.2
  intro j hj
  obtain ⟨h1, -⟩ := mem_ready.1 hj
  rcases Nat.lt_or_ge j listed.size with h' | h'
  · rw [h j h'] at h1; cases h1
  · simp [Array.getElem?_eq_none h'] at h1

theorem wpAny_last {P : Program} {C : World → Prop} {Q : Exit → Act → World → Prop} (hog : o.guard = none) (hb0 : backB l.toArray = true) (hb : backB (l ++ [o]).toArray = true) (hg : guardB l = true)
    (hs : Region.sinkB .any (l ++ [o]).toArray l.length = true) (hc : Region.chainB .any (l ++ [o]).toArray l.length = true) :
    ∀ (fuel : Nat) (listed : Array Bool) (a : Act) (w : World), C w → listed.size = l.length → HeadInv .any (l ++ [o]).toArray l.length (listed.push false) →
      wpAnyQ P .any l.toArray C (fun a' => ∀ w', C w' → wpList P (l ++ [o]).toArray Q [o] a' w') fuel listed a →
      wpAny P .any (l ++ [o]).toArray Q (fuel + 1) (listed.push false) a w := by
  have hne : ∀ listed : Array Bool, listed.size = l.length → Region.ready .any (l ++ [o]).toArray (listed.push false) ≠ [] := fun listed hsz =>
    ready_ne hb (by simp [hsz]) l.length (by simp) (by simp [← hsz])
  have hend : ∀ (fuel : Nat) (listed : Array Bool) (a : Act) (w : World), listed.size = l.length → (∀ j, j < l.length → listed.getD j true = true) → Q .normal a w → wpAny P .any (l ++ [o]).toArray Q fuel ((listed.push false).setIfInBounds l.length true) a w := by
    intro fuel listed a w hsz hall hq
    have h0 : Region.ready .any (l ++ [o]).toArray ((listed.push false).setIfInBounds l.length true) = [] := by
      refine all_listed (fun j hj => ?_) _
      simp at hj
      by_cases hjl : j = l.length
      · subst hjl; simp [hsz]
      · rw [getD_set_ne true (Ne.symm hjl), getD_push_lt true (by omega)]
        exact hall j (by omega)
    cases fuel with
    | zero => exact ⟨h0, hq⟩
    | succ fuel => exact ⟨fun _ => hq, fun i hi => by rw [h0] at hi; cases hi⟩
  have hlast : ∀ (fuel : Nat) (listed : Array Bool) (a : Act) (w : World), listed.size = l.length → (∀ j, j < l.length → listed.getD j true = true) → wpList P (l ++ [o]).toArray Q [o] a w →
      wpOp P (l ++ [o]).toArray Q l.length (wpAny P .any (l ++ [o]).toArray Q fuel ((listed.push false).setIfInBounds l.length true)) a w := by
    intro fuel listed a w hsz hall hq
    unfold wpOp
    rw [ops_last]
    simp only [wpList, Region.wanted, hog, if_true] at hq ⊢
    exact hq.imp (Oper.wp_mono (fun a' w' h' => hend fuel listed a' w' hsz hall h')) id
  have hlist : ∀ listed : Array Bool, listed.size = l.length → Region.ready .any l.toArray listed = [] → ∀ j, j < l.length → listed.getD j true = true := fun listed hsz h0 j hj => by
    cases hv : listed.getD j true with
    | true => rfl
    | false => exact absurd h0 (ready_ne hb0 (by simpa using hsz) j (by simpa using hj) hv)
  have hle : ∀ (listed : Array Bool) (i : Nat), i ∈ Region.ready .any (l ++ [o]).toArray (listed.push false) → i < l.length ∨ i = l.length := fun listed i hi => by
    obtain ⟨-, oi, hoi, -⟩ := mem_ready.1 hi
    have := (Array.getElem?_eq_some_iff.1 hoi).1
    simp at this
    omega
  intro fuel
  induction fuel with
  | zero =>
    intro listed a w hw hsz inv h
    refine ⟨fun h0 => absurd h0 (hne listed hsz), fun i hi => ?_⟩
    have hall := hlist listed hsz h.1
    rcases hle listed i hi with hil | rfl
    · rw [ready_lt hsz hil, h.1] at hi; cases hi
    · exact hlast 0 listed a w hsz hall (h.2 w hw)
  | succ fuel ih =>
    intro listed a w hw hsz inv h
    refine ⟨fun h0 => absurd h0 (hne listed hsz), fun i hi => ?_⟩
    rcases hle listed i hi with hil | rfl
    · have hi0 := (ready_lt hsz hil).1 hi
      refine wpOp_of_qOp hw (fun a' w' hw' hk => ?_) (qOp_same hg hil (h.2 i hi0))
      have e := set_push (x := listed) (i := i) (by omega)
      have inv' := inv.set hi hil
      rw [e] at inv' ⊢
      exact ih (listed.setIfInBounds i true) a' w' hw' (by simpa using hsz) inv' hk
    · have hall : ∀ j, j < l.length → listed.getD j true = true := fun j hj => by
        cases hv : listed.getD j true with
        | true => rfl
        | false => exact absurd hi (tail_waits hs hc (by simp) inv (l.length - j) j rfl hj (by rw [getD_push_lt true (by omega)]; exact hv) l.length (Nat.le_refl _))
      exact hlast (fuel + 1) listed a w hsz hall (h.1 (all_listed (fun j hj => hall j (by omega)) _) w hw)

theorem wp_region_quiet_last {P : Program} {C : World → Prop} {id : Nat} {Q : Exit → Act → World → Prop} {a : Act} {w : World} (hm : P.follows .mixedOrders = true) (hB : Region.lexB .any l.toArray = true)
    (hog : o.guard = none) (hb0 : backB l.toArray = true) (hb : backB (l ++ [o]).toArray = true) (hg : guardB l = true)
    (hs : Region.sinkB .any (l ++ [o]).toArray l.length = true) (hc : Region.chainB .any (l ++ [o]).toArray l.length = true) (hC : C { w with drawn := w.drawn + 1 })
    (h : wpQuiet P l.toArray C (fun a' => ∀ w', C w' → wpList P (l ++ [o]).toArray Q [o] a' w') l a) : (Code.region id (l ++ [o]).toArray true).wp P Q a w := by
  simp only [Region.lexB, Bool.and_eq_true] at hB
  refine wp_region_any hm ?_
  have e : Array.replicate (l ++ [o]).toArray.size false = (Array.replicate l.length false).push false := by
    rw [← Array.replicate_succ]; simp
  rw [e, show (l ++ [o]).toArray.size = l.length + 1 by simp]
  refine wpAny_last hog hb0 hb hg hs hc l.length _ a _ hC (by simp) ?_ ?_
  · exact ⟨by simp, fun j oj _ hl => (by rw [← Array.replicate_succ, getD_replicate_false] at hl; cases hl), fun t _ ht => getD_in (by simpa using ht) (by rw [← Array.replicate_succ]; exact getD_replicate_false _ _)⟩
  · have := wpAnyQ_lex (P := P) (C := C) (md := .any) hB.1 l 0 (Array.replicate l.length false) a (by simp) (by simpa using hB.2) h
    simpa using this

theorem wp_region_quiet_last_lit {P : Program} {id : Nat} {Q : Exit → Act → World → Prop} {a : Act} {w : World} {full : List Oper} (hf : full = l ++ [o]) (hm : P.follows .mixedOrders = true) (hB : Region.lexB .any l.toArray = true)
    (hog : o.guard = none) (hb0 : backB l.toArray = true) (hb : backB (l ++ [o]).toArray = true) (hg : guardB l = true)
    (hs : Region.sinkB .any (l ++ [o]).toArray l.length = true) (hc : Region.chainB .any (l ++ [o]).toArray l.length = true)
    (h : wpQuiet P l.toArray (fun w' => ∃ p : Regrown, w' = grow (redrawn w p.d) p.os) (fun a' => ∀ w', (∃ p : Regrown, w' = grow (redrawn w p.d) p.os) → wpList P (l ++ [o]).toArray Q [o] a' w') l a) : (Code.region id full.toArray true).wp P Q a w := by
  subst hf
  exact wp_region_quiet_last hm hB hog hb0 hb hg hs hc ⟨⟨w.drawn + 1, #[]⟩, by rw [grow_empty]; rfl⟩ h
end

end Go.Proofs.YtodgjjkpbcadoaaGreatDoor
