/-
  What the reference's Print answers.
-/
import Derived.Test.YtodgjjkpbcadoaaGreatDoorRfC
import Derived.Test.YtodgjjkpbcadoaaGreatDoorWkGr
import Derived.Test.YtodgjjkpbcadoaaGreatDoorLwAB
import Derived.Lib.QuietBelow
import Derived.BigQuiet
import Derived.Test.YtodgjjkpbcadoaaGreatDoorHeld
namespace Go.Proofs.YtodgjjkpbcadoaaGreatDoor
open Go.RowKit Go.IntWalk Lx Pz Go.Sort
set_option linter.unusedVariables false

set_option maxHeartbeats 4000000 in
set_option maxRecDepth 100000 in
theorem wprint_bad {W : World} {na ba da : Option Addr} {nl nc bl bc dl dc : Nat} {root : Int} {NM : List Txt} {BS : List Int} {NS : List Nd} (hX : Tx W na nl nc NM) (hB : Iz W ba bl bc BS) (hN : Nz W da dl dc NS) (hs : ∀ s ∈ NM, s.length ≤ 9223372036854775807) (hc : chkP NM BS NS root = false) :
    Calls Tryz.prog 6 #[treeV na ba da nl nc bl bc dl dc root] W fun e W' => e = .returned (.tuple #[.string ⟨#[]⟩, .int .i64 3]) ∧ Below W.heap.size W W' := by
  have hb0 := bel1 W (.cells (tr4 (.slice na nl nc) (.slice ba bl bc) (.slice da dl dc) (.int .i64 root)) 26)
  have HB := hide hb0
  have HC := hide (sound_any (root := root) (hX.later hb0) (hB.later hb0) (hN.later hb0) hs)
  rw [snd_chk, hc] at HC
  obtain ⟨t0, t1, t2, t3⟩ := facts4 (HasC.new W 26 (tr4 (.slice na nl nc) (.slice ba bl bc) (.slice da dl dc) (.int .i64 root)))
  clear hX hB hN hs hb0 hc
  go_enter Tryz.func6, Tryz.ntmps6
  go_wp2_with fail
  refine HC.out.mono ?_
  rintro e W1 ⟨rfl, hb⟩
  have HB1 := hide (bel HB.out hb)
  clear hb t0 t1 t2 t3
  go_wp2_with fail
  go_ret2
  exact ⟨rfl, HB1.out⟩

/-- What stays through the reference's Print. -/
structure Pst (W V : World) (na ba da : Option Addr) (nl nc bl bc dl dc : Nat) (root : Int) (NM : List Txt) (BS : List Int) (NS : List Nd) : Prop where
  old : Below W.heap.size W V
  X : Tx V na nl nc NM
  B : Iz V ba bl bc BS
  N : Nz V da dl dc NS
  T : HasC V W.heap.size 26 (tr4 (.slice na nl nc) (.slice ba bl bc) (.slice da dl dc) (.int .i64 root))
theorem Pst.later {W V V' : World} {na ba da : Option Addr} {nl nc bl bc dl dc : Nat} {root : Int} {NM : List Txt} {BS : List Int} {NS : List Nd} (h : Pst W V na ba da nl nc bl bc dl dc root NM BS NS) (hb : Below V.heap.size V V') : Pst W V' na ba da nl nc bl bc dl dc root NM BS NS :=
  ⟨bel h.old hb, h.X.later hb, h.B.later hb, h.N.later hb, h.T.below hb⟩
theorem Pst.E {W V : World} {na ba da : Option Addr} {nl nc bl bc dl dc : Nat} {root : Int} {NM : List Txt} {BS : List Int} {NS : List Nd} (h : Pst W V na ba da nl nc bl bc dl dc root NM BS NS) (hf : NS.length ≤ 1024) : Er V ⟨.slice na nl nc, .slice ba bl bc, .slice da dl dc, .int .i64 root⟩ NM NS :=
  ⟨⟨_, _, _, rfl, h.X⟩, ⟨_, _, _, rfl, h.N⟩, hf⟩

theorem Dec.small {NM : List Txt} {BS : List Int} {NS : List Nd} {root : Int} {es : List E} {ex : E} (h : Dec NM BS NS root es ex) : (∀ j, j < es.length → (es.getD j z0).size ≤ 1024) ∧ ex.size ≤ 1024 := by
  obtain ⟨-, -, h3, -⟩ := h.lens
  have hf := h.few
  refine ⟨fun j hj => ?_, by omega⟩
  have h1 := szL_pre es j hj
  have h2 := szL_le es (j + 1)
  omega

set_option maxHeartbeats 8000000 in
set_option maxRecDepth 100000 in
theorem wprint_ok {W : World} {na ba da : Option Addr} {nl nc bl bc dl dc : Nat} {root : Int} {NM : List Txt} {BS : List Int} {NS : List Nd} (hX : Tx W na nl nc NM) (hB : Iz W ba bl bc BS) (hN : Nz W da dl dc NS) {es : List E} {ex : E} (hD : Dec NM BS NS root es ex) :
    Calls Tryz.prog 6 #[treeV na ba da nl nc bl bc dl dc root] W fun e W' => e = .returned (.tuple (if 1024 < (whole NM es ex).length then #[.string ⟨#[]⟩, .int .i64 4] else #[.string (sB (whole NM es ex)), .int .i64 0])) ∧ Below W.heap.size W W' := by
  have hs : ∀ s ∈ NM, s.length ≤ 9223372036854775807 := fun s h => by have := wrd_len (nm_wrd hD.ok h).1; omega
  have hb0 := bel1 W (.cells (tr4 (.slice na nl nc) (.slice ba bl bc) (.slice da dl dc) (.int .i64 root)) 26)
  have HC := hide (sound_any (root := root) (hX.later hb0) (hB.later hb0) (hN.later hb0) hs)
  rw [snd_chk, chk_dec.2 ⟨es, ex, hD⟩] at HC
  have HP := hide (show Pst W (W.alloc (.cells (tr4 (.slice na nl nc) (.slice ba bl bc) (.slice da dl dc) (.int .i64 root)) 26)) na ba da nl nc bl bc dl dc root NM BS NS from ⟨hb0, hX.later hb0, hB.later hb0, hN.later hb0, HasC.new W _ _⟩)
  have hnl := hX.len
  have hbl := hB.len
  have hm1 := hX.max
  have hm2 := hB.max
  unfold maxLen at hm1 hm2
  have hm3 := hX.le
  have hm4 := hB.le
  have hne := hD.names
  obtain ⟨-, hbe, -, -⟩ := hD.lens
  have hsm := hD.small
  have hsh := hD.short
  have HF := hide hD.few
  have HND := hide (fun (j : Nat) (hj : j < es.length) => (show ∃ p : Nat, BS.getD j 0 = p ∧ ∀ (X : World) (h : Er X ⟨.slice na nl nc, .slice ba bl bc, .slice da dl dc, .int .i64 root⟩ NM NS), Calls Tryz.prog 15 #[.agg (tr4 (.slice na nl nc) (.slice ba bl bc) (.slice da dl dc) (.int .i64 root)), .int .i64 (p : Int)] X fun r V' => r = .returned (.string (sB (etx NM (es.getD j z0)))) ∧ Below X.heap.size X V' from by
    obtain ⟨p, h1, h2⟩ := hD.lies.1 j _ (getD_es hj)
    refine ⟨p, by rw [List.getD_eq_getElem?_getD, h1]; rfl, fun X h => ?_⟩
    have hw := wnode_any (t := ⟨.slice na nl nc, .slice ba bl bc, .slice da dl dc, .int .i64 root⟩) (NS := NS) hD.ok (bd := j) (by omega) (es.getD j z0) (hD.gd j _ (getD_es hj)) (hsm.1 j hj) X p h h2
    exact hw))
  obtain ⟨r, hr, hlr⟩ := hD.lies.2
  subst hr
  have HNX := hide (fun (X : World) (h : Er X ⟨.slice na nl nc, .slice ba bl bc, .slice da dl dc, .int .i64 (r : Int)⟩ NM NS) => (wnode_any (t := ⟨.slice na nl nc, .slice ba bl bc, .slice da dl dc, .int .i64 (r : Int)⟩) (NS := NS) hD.ok (bd := es.length) (by omega) ex hD.gx hsm.2 X r h hlr))
  obtain ⟨n, hn⟩ : ∃ n, es.length = n := ⟨_, rfl⟩
  have HLT := hide (fun (j : Nat) (hj : j ≤ n) => show (ltT NM es j).length ≤ 200000 from by
    have := ltT_mono NM es hj
    unfold whole at hsh
    rw [List.length_append, hn] at hsh
    omega)
  have hwh : whole NM es ex = ltT NM es n ++ etx NM ex := by unfold whole; rw [hn]
  rw [hwh] at hsh ⊢
  rw [hn] at HND
  obtain rfl : nl = n := by omega
  obtain rfl : bl = nl := by omega
  have HSH := hide hsh
  obtain ⟨R, hR⟩ : ∃ R : Array Value, (if 1024 < (ltT NM es bl ++ etx NM ex).length then #[.string ⟨#[]⟩, .int .i64 4] else #[.string (sB (ltT NM es bl ++ etx NM ex)), .int .i64 0]) = R := ⟨_, rfl⟩
  rw [hR]
  have HR := hide hR
  clear hR
  have HH := hide HP.out.T
  obtain ⟨t0, t1, t2, t3⟩ := facts4 HH.out
  clear hX hB hN hs hb0 hD hnl hbl hne hbe hsm hlr hn hwh hsh
  go_enter Tryz.func6, Tryz.ntmps6
  go_wp2_with fail
  refine HC.out.mono ?_
  rintro e W1 ⟨rfl, hb⟩
  have HP1 := hide (HP.out.later hb)
  clear hb t0 t1 t2 t3 HH HP HC
  go_wp2_with fail
  go_loopw [4, 5] (fun s i wr => ∃ (k : Nat) (S : ByteArray), k ≤ bl ∧ s = .string S ∧ i = .int .i64 k ∧ Hid (S = sB (ltT NM es k)) ∧ Hid (Pst W wr na ba da bl nc bl bc dl dc r NM BS NS)) (fun _ i _ => bl - (intOf i).toNat)
  case atStart => exact ⟨0, _, Nat.zero_le _, rfl, rfl, hide rfl, HP1⟩
  case round =>
    obtain ⟨k, S, hk, rfl, rfl, HS, HPk⟩ := hrel
    rename World => V
    clear HP1
    obtain ⟨t0, t1, t2, t3⟩ := facts4 HPk.out.T
    by_cases hlt : k < bl
    · obtain ⟨gn, ofn, rfl, e1⟩ : ∃ gn ofn, na = some ⟨gn, ofn, none⟩ ∧ V.cell? ⟨gn, ofn + k, none⟩ = some (.string (sB (NM.getD k []))) := by
        rcases HPk.out.X.cell with h0 | ⟨gn, ofn, ha, hc⟩
        · omega
        · exact ⟨gn, ofn, ha, hc k hlt⟩
      obtain ⟨pj, hpj, hnd⟩ := HND.out k hlt
      obtain ⟨gb, ofb, rfl, e2⟩ : ∃ gb ofb, ba = some ⟨gb, ofb, none⟩ ∧ V.cell? ⟨gb, ofb + k, none⟩ = some (.int .i64 (pj : Int)) := by
        rcases HPk.out.B.cell with h0 | ⟨gb, ofb, ha, -, hc⟩
        · omega
        · have := hc k hlt
          rw [hpj] at this
          exact ⟨gb, ofb, ha, this⟩
      have hl := HLT.out (k + 1) hlt
      have hS := HS.out
      obtain ⟨Sn, hSn⟩ := some_sB (NM.getD k [])
      obtain ⟨Se, hSe⟩ := some_sB (etx NM (es.getD k z0))
      rw [← hSn] at e1
      have HKn := fun (G : World) (hb : Below V.heap.size V G) => hide (hnd G ((HPk.out.later hb).E HF.out))
      rw [← hSe] at HKn
      have hT : ltT NM es (k + 1) = ((((ltT NM es k ++ [108, 101, 116, 32]) ++ NM.getD k []) ++ [61]) ++ etx NM (es.getD k z0)) ++ [59] := by rw [ltT_succ]; simp
      rw [hT] at hl
      obtain ⟨C1, hC1, aC1⟩ := cat (B := ⟨#[108, 101, 116, 32]⟩) (b := [108, 101, 116, 32]) hS rfl (by simp only [List.length_append, List.length_cons, List.length_nil] at hl ⊢; omega)
      obtain ⟨C2, hC2, aC2⟩ := cat hC1 hSn (by simp only [List.length_append, List.length_cons, List.length_nil] at hl ⊢; omega)
      obtain ⟨C3, hC3, aC3⟩ := cat (B := ⟨#[61]⟩) (b := [61]) hC2 rfl (by simp only [List.length_append, List.length_cons, List.length_nil] at hl ⊢; omega)
      obtain ⟨C4, hC4, aC4⟩ := cat hC3 hSe (by simp only [List.length_append, List.length_cons, List.length_nil] at hl ⊢; omega)
      obtain ⟨C5, hC5, aC5⟩ := cat (B := ⟨#[59]⟩) (b := [59]) hC4 rfl (by simp only [List.length_append, List.length_cons, List.length_nil] at hl ⊢; omega)
      rw [← hT] at hC5
      have HC5 := hide hC5
      have hk1 : (k : Int) < bl := by omega
      have f0 := fun dd os => cell_regrown t0 dd os
      have f1 := fun dd os => cell_regrown t1 dd os
      have f2 := fun dd os => cell_regrown t2 dd os
      have f3 := fun dd os => cell_regrown t3 dd os
      have f4 := fun dd os => cell_regrown e1 dd os
      have f5 := fun dd os => cell_regrown e2 dd os
      clear hpj hnd hl hS hSn hSe hT hC1 hC2 hC3 hC4 hC5 HS
      go_wp2_with fail
      refine wp_region_quiet_below mixedP (by kernel_rfl) ?_
      repeat (go_big_quiet_step (fail))
      go_big_quiet_step ((go_at_call 15; exact Calls.regrown_of (HKn _ (below_regrown _ _ _)).out))
      repeat (go_big_quiet_step (fail))
      refine wpQuiet_nil ?_
      intro _ hw'
      obtain ⟨pq, hw''⟩ := hw'
      subst hw''
      have HP2 := hide (HPk.out.later (below_regrown V pq.d pq.os))
      clear f0 f1 f2 f3 f4 f5 t0 t1 t2 t3 e1 e2 HKn HPk
      generalize grow (redrawn V pq.d) pq.os = G at *
      go_wp2_with fail
      go_roundw
      case rel => exact ⟨k + 1, C5, by omega, rfl, by go_num, HC5, HP2⟩
      case measure => simp [intOf]; omega
    · obtain rfl : k = bl := by omega
      have hS := HS.out
      obtain ⟨Se, hSe⟩ := some_sB (etx NM ex)
      have hsh := HSH.out
      obtain ⟨C1, hC1, aC1⟩ := cat hS hSe (by simp only [List.length_append] at hsh ⊢; omega)
      have HKn := hide (HNX.out V (HPk.out.E HF.out))
      rw [← hSe] at HKn
      have hz : C1.size = (ltT NM es k ++ etx NM ex).length := by rw [hC1, sB_size]
      have HC1 := hide hC1
      clear hS hSe hC1 HS hsh
      have hk1 : ¬ ((k : Int) < k) := by omega
      by_cases hlen : 1024 < (ltT NM es k ++ etx NM ex).length
      · have hR := HR.out
        rw [if_pos hlen] at hR
        have HRR := hide hR
        have hli : (1024 : Int) < (C1.size : Int) := by rw [← hz] at hlen; omega
        clear hz hlen hR HR
        go_wp2_with fail
        refine HKn.out.mono ?_
        rintro e V2 ⟨rfl, hb⟩
        have HB2 := hide (bel HPk.out.old hb)
        clear hb t0 t1 t2 t3
        go_wp2_with fail
        go_ret2
        exact ⟨by rw [← HRR.out]; rfl, HB2.out⟩
      · have hR := HR.out
        rw [if_neg hlen, ← HC1.out] at hR
        have HRR := hide hR
        have hli : ¬ ((1024 : Int) < (C1.size : Int)) := by rw [← hz] at hlen; omega
        clear hz hlen hR HR
        go_wp2_with fail
        refine HKn.out.mono ?_
        rintro e V2 ⟨rfl, hb⟩
        have HB2 := hide (bel HPk.out.old hb)
        clear hb t0 t1 t2 t3
        go_wp2_with fail
        go_ret2
        exact ⟨by rw [← HRR.out]; rfl, HB2.out⟩

end Go.Proofs.YtodgjjkpbcadoaaGreatDoor

/-
  The law PrintTree, over any tree in memory.
-/
namespace Go.Proofs.YtodgjjkpbcadoaaGreatDoor
open Go.RowKit Go.IntWalk Lx Pz
set_option linter.unusedVariables false

/-- What both Prints answer of a tree. -/
def Ans (NM : List Txt) (BS : List Int) (NS : List Nd) (root : Int) (s : ByteArray) (z : Int) : Prop :=
  (chkP NM BS NS root = false ∧ s = ⟨#[]⟩ ∧ z = 3) ∨ ∃ es ex, Dec NM BS NS root es ex ∧ ((1024 < (whole NM es ex).length ∧ s = ⟨#[]⟩ ∧ z = 4) ∨ (¬ 1024 < (whole NM es ex).length ∧ s = sB (whole NM es ex) ∧ z = 0))

theorem ans_ex (NM : List Txt) (BS : List Int) (NS : List Nd) (root : Int) : ∃ s z, Ans NM BS NS root s z := by
  cases hc : chkP NM BS NS root with
  | false => exact ⟨_, _, .inl ⟨hc, rfl, rfl⟩⟩
  | true =>
    obtain ⟨es, ex, hD⟩ := chk_dec.1 hc
    by_cases hl : 1024 < (whole NM es ex).length
    · exact ⟨_, _, .inr ⟨es, ex, hD, .inl ⟨hl, rfl, rfl⟩⟩⟩
    · exact ⟨_, _, .inr ⟨es, ex, hD, .inr ⟨hl, rfl, rfl⟩⟩⟩

theorem print_ans {W : World} {na ba da : Option Addr} {nl nc bl bc dl dc : Nat} {root : Int} {NM : List Txt} {BS : List Int} {NS : List Nd} (hX : Tx W na nl nc NM) (hB : Iz W ba bl bc BS) (hN : Nz W da dl dc NS) (hs : ∀ s ∈ NM, s.length ≤ 9223372036854775807) (hG : Gl W) {s : ByteArray} {z : Int} (h : Ans NM BS NS root s z) :
    Calls Tryz.prog 5 #[treeV na ba da nl nc bl bc dl dc root] W fun e W' => e = .returned (.tuple #[.string s, .int .i64 z]) ∧ Below W.heap.size W W' := by
  rcases h with ⟨hc, rfl, rfl⟩ | ⟨es, ex, hD, ⟨hl, rfl, rfl⟩ | ⟨hl, rfl, rfl⟩⟩
  · exact print_bad hX hB hN hs hc
  · have := print_ok hX hB hN hG hD
    rwa [if_pos hl] at this
  · have := print_ok hX hB hN hG hD
    rwa [if_neg hl] at this

theorem wprint_ans {W : World} {na ba da : Option Addr} {nl nc bl bc dl dc : Nat} {root : Int} {NM : List Txt} {BS : List Int} {NS : List Nd} (hX : Tx W na nl nc NM) (hB : Iz W ba bl bc BS) (hN : Nz W da dl dc NS) (hs : ∀ s ∈ NM, s.length ≤ 9223372036854775807) {s : ByteArray} {z : Int} (h : Ans NM BS NS root s z) :
    Calls Tryz.prog 6 #[treeV na ba da nl nc bl bc dl dc root] W fun e W' => e = .returned (.tuple #[.string s, .int .i64 z]) ∧ Below W.heap.size W W' := by
  rcases h with ⟨hc, rfl, rfl⟩ | ⟨es, ex, hD, ⟨hl, rfl, rfl⟩ | ⟨hl, rfl, rfl⟩⟩
  · exact wprint_bad hX hB hN hs hc
  · have := wprint_ok hX hB hN hD
    rwa [if_pos hl] at this
  · have := wprint_ok hX hB hN hD
    rwa [if_neg hl] at this

/-- The argument and what Roomy made of it, in a later world. -/
structure Ce (W V : World) (na ba da : Option Addr) (nl nc bl bc dl dc g1 g2 g3 k1 k2 k3 p1 p2 : Nat) (root : Int) (NM : List Txt) (BS : List Int) (NS : List Nd) : Prop where
  old : Below W.heap.size W V
  X : Tx V na nl nc NM
  B : Iz V ba bl bc BS
  N : Nz V da dl dc NS
  X2 : Tx V (some ⟨g1, 0, none⟩) nl k1 NM
  B2 : Iz V (some ⟨g2, 0, none⟩) bl k2 BS
  N2 : Nz V (some ⟨g3, 0, none⟩) dl k3 NS
  c1 : V.cell? ⟨g1, nl, none⟩ = some (.string (sB spareT))
  c2 : V.cell? ⟨g2, bl, none⟩ = some (.int .i64 7777)
  c3 : V.cell? ⟨g3, dl * 9, none⟩ = some (.int .i64 7777)
  t : HasC V p1 26 #[.slice na nl nc, .slice ba bl bc, .slice da dl dc, .int .i64 root]
  u : HasC V p2 26 #[.slice (some ⟨g1, 0, none⟩) nl k1, .slice (some ⟨g2, 0, none⟩) bl k2, .slice (some ⟨g3, 0, none⟩) dl k3, .int .i64 root]
theorem Ce.later {W V V' : World} {na ba da : Option Addr} {nl nc bl bc dl dc g1 g2 g3 k1 k2 k3 p1 p2 : Nat} {root : Int} {NM : List Txt} {BS : List Int} {NS : List Nd} (h : Ce W V na ba da nl nc bl bc dl dc g1 g2 g3 k1 k2 k3 p1 p2 root NM BS NS) (hb : Below V.heap.size V V') : Ce W V' na ba da nl nc bl bc dl dc g1 g2 g3 k1 k2 k3 p1 p2 root NM BS NS :=
  ⟨bel h.old hb, h.X.later hb, h.B.later hb, h.N.later hb, h.X2.later hb, h.B2.later hb, h.N2.later hb, below_cell hb h.c1, below_cell hb h.c2, below_cell hb h.c3, h.t.below hb, h.u.below hb⟩

set_option maxRecDepth 100000 in
set_option maxHeartbeats 8000000 in
theorem tree_walk {W : World} {na ba da : Option Addr} {nl nc bl bc dl dc : Nat} {root : Int} {NM : List Txt} {BS : List Int} {NS : List Nd} (hX : Tx W na nl nc NM) (hB : Iz W ba bl bc BS) (hN : Nz W da dl dc NS) (hs : ∀ s ∈ NM, s.length ≤ 9223372036854775807)
    (hn1 : na = none → nl = 0 ∧ nc = 0) (hn2 : ba = none → bl = 0 ∧ bc = 0) (hn3 : da = none → dl = 0 ∧ dc = 0) (hs1 : (nl + 1) * 16 ≤ 140737488355328) (hs2 : (bl + 1) * 8 ≤ 140737488355328) (hs3 : (dl + 1) * 72 ≤ 140737488355328) (hG : Gl W) :
    Calls Tryz.prog 3 #[.agg #[.slice na nl nc, .slice ba bl bc, .slice da dl dc, .int .i64 root]] W fun e W' => e = .returned (.bool true) ∧ Below W.heap.size W W' := by
  obtain ⟨sv, zv, hA⟩ := ans_ex NM BS NS root
  have HA := hide hA
  have HG := hide hG
  have hb0 := bel1 W (.cells #[.slice na nl nc, .slice ba bl bc, .slice da dl dc, .int .i64 root] 26)
  have HR := hide (roomy_any (hX.later hb0) (hB.later hb0) (hN.later hb0) hn1 hn2 hn3 hs1 hs2 hs3 (root := root))
  have HT := hide (HasC.new W 26 #[.slice na nl nc, .slice ba bl bc, .slice da dl dc, .int .i64 root])
  have HX := hide (hX.later hb0)
  have HB := hide (hB.later hb0)
  have HN := hide (hN.later hb0)
  have HS := hide hs
  have HB0 := hide hb0
  clear hX hB hN hs hn1 hn2 hn3 hs1 hs2 hs3 hb0 hA hG
  obtain ⟨t0, t1, t2, t3⟩ := facts4 HT.out
  go_enter Tryz.func3, Tryz.ntmps3
  go_wp2_with fail
  refine HR.out.mono ?_
  clear HR t0 t1 t2 t3
  rintro e V ⟨nv, bv, dv, rfl, h1, h2, h3, hb⟩
  obtain ⟨g1, k1, rfl, hX2, l1, m1, c1⟩ := h1.tx
  obtain ⟨g2, k2, rfl, hB2, l2, m2, c2⟩ := h2.iz
  obtain ⟨g3, k3, rfl, hN2, l3, m3, c3⟩ := h3.nz
  have hba := bel1 V (.cells #[.slice (some ⟨g1, 0, none⟩) nl k1, .slice (some ⟨g2, 0, none⟩) bl k2, .slice (some ⟨g3, 0, none⟩) dl k3, .int .i64 root] 26)
  have hbb := bel hb hba
  have HC := hide (show Ce W (V.alloc (.cells #[.slice (some ⟨g1, 0, none⟩) nl k1, .slice (some ⟨g2, 0, none⟩) bl k2, .slice (some ⟨g3, 0, none⟩) dl k3, .int .i64 root] 26)) na ba da nl nc bl bc dl dc g1 g2 g3 k1 k2 k3 W.heap.size V.heap.size root NM BS NS from
    ⟨bel HB0.out hbb, HX.out.later hbb, HB.out.later hbb, HN.out.later hbb, hX2.later hba, hB2.later hba, hN2.later hba, below_cell hba c1, below_cell hba c2, below_cell hba c3, HT.out.below hbb, HasC.new _ _ _⟩)
  have HL := hide (And.intro (And.intro l1 (And.intro l2 l3)) (And.intro m1 (And.intro m2 m3)))
  clear h1 h2 h3 hb hX2 hB2 hN2 c1 c2 c3 l1 l2 l3 m1 m2 m3 hba hbb HX HB HN HT HB0
  obtain ⟨p2, hp2⟩ : ∃ p, V.heap.size = p := ⟨_, rfl⟩
  obtain ⟨V1, hV1⟩ : ∃ X, V.alloc (.cells #[.slice (some ⟨g1, 0, none⟩) nl k1, .slice (some ⟨g2, 0, none⟩) bl k2, .slice (some ⟨g3, 0, none⟩) dl k3, .int .i64 root] 26) = X := ⟨_, rfl⟩
  rw [hV1, hp2] at HC
  have H1 := hide hV1
  have H2 := hide hp2
  clear hV1 hp2
  obtain ⟨t0, t1, t2, t3⟩ := facts4 HC.out.u
  go_wp2_with fail
  rw [H1.out, H2.out]
  go_wp2_with fail
  clear H1 H2 t0 t1 t2 t3
  refine (print_ans HC.out.X2 HC.out.B2 HC.out.N2 HS.out (HG.out.later HC.out.old) HA.out).mono ?_
  rintro e V2 ⟨rfl, hb⟩
  have HC2 := hide (HC.out.later hb)
  clear hb HC
  obtain ⟨t0, t1, t2, t3⟩ := facts4 HC2.out.t
  go_wp2_with fail
  refine (wprint_ans HC2.out.X HC2.out.B HC2.out.N HS.out HA.out).mono ?_
  rintro e V3 ⟨rfl, hb⟩
  have HC3 := hide (HC2.out.later hb)
  clear hb HC2 t0 t1 t2 t3
  go_wp2_with fail
  refine (awake_any (HG.out.later HC3.out.old)).mono ?_
  rintro e V4 ⟨rfl, hb⟩
  have HC4 := hide (HC3.out.later hb)
  clear hb HC3
  obtain ⟨t0, t1, t2, t3⟩ := facts4 HC4.out.t
  obtain ⟨s0, s1, s2, s3⟩ := facts4 HC4.out.u
  have HL1 := HL.out
  have HH := hide (held_any HC4.out.X2 HC4.out.B2 HC4.out.N2 HC4.out.X HC4.out.B HC4.out.N HL1.1.1 HL1.1.2.1 HL1.1.2.2 HL1.2.1 HL1.2.2.1 HL1.2.2.2 HC4.out.c1 HC4.out.c2 HC4.out.c3 (root := root))
  clear HL1
  go_wp2_with fail
  refine HH.out.mono ?_
  rintro e V5 ⟨rfl, hb⟩
  have HB5 := hide (bel HC4.out.old hb)
  clear hb
  go_wp2_with fail
  go_ret
  exact ⟨rfl, HB5.out⟩

end Go.Proofs.YtodgjjkpbcadoaaGreatDoor
