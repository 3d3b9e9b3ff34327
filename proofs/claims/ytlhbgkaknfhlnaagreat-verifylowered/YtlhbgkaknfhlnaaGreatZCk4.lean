/-
  inOrder of parse.Check.
-/
import Derived.Test.YtlhbgkaknfhlnaaGreatZCkB
import Derived.Test.YtlhbgkaknfhlnaaGreatZJoA
namespace Go.Proofs.YtlhbgkaknfhlnaaGreat
open Go.RowKit Go.IntWalk Lx Pz
set_option linter.unusedVariables false

def tkE (L : List Int) (n : Nd) : Bool := L.getD 0 0 == n.a && (L.getD 1 0 == n.b && L.getD 2 0 == n.c)
/-- One node more on the row of those that are no parts yet. -/
def stepP (BS : List Int) (i : Nat) (n : Nd) (s : List Int × Nat) : Option (List Int × Nat) :=
  if wthn (prZ n.op) 0 s.1.length && (fldP n s.2 && tkE (s.1.drop (s.1.length - (prZ n.op).toNat)) n) then
    if s.2 < BS.length ∧ BS.getD s.2 0 = i then
      (if s.1.length - (prZ n.op).toNat = 0 then some ([], s.2 + 1) else none)
    else some (s.1.take (s.1.length - (prZ n.op).toNat) ++ [(i : Int)], s.2)
  else none
def mach (BS : List Int) : Nat → List Nd → List Int × Nat → Option (List Int × Nat)
  | _, [], s => some s
  | i, n :: r, s => (stepP BS i n s).bind (mach BS (i + 1) r)
def ordP (BS : List Int) (NS : List Nd) : Bool :=
  match mach BS 0 NS ([], 0) with
  | some s => s.2 == BS.length && s.1.length == 1
  | none => false
theorem mach_app (BS : List Int) : ∀ (A B : List Nd) (i : Nat) (s : List Int × Nat), mach BS i (A ++ B) s = (mach BS i A s).bind (mach BS (i + A.length) B)
  | [], B, i, s => rfl
  | n :: A, B, i, s => by
    simp only [List.cons_append, mach, List.length_cons]
    cases stepP BS i n s with
    | none => rfl
    | some s' =>
      show mach BS (i + 1) (A ++ B) s' = _
      rw [mach_app BS A B]
      rw [show i + 1 + A.length = i + (A.length + 1) by omega]
      rfl
theorem mach_succ {BS : List Int} {NS : List Nd} {k : Nat} {s : List Int × Nat} (hk : k < NS.length) (h : mach BS 0 (NS.take k) ([], 0) = some s) : mach BS 0 (NS.take (k + 1)) ([], 0) = stepP BS k (NS.getD k n0) s := by
  rw [List.take_succ_eq_append_getElem hk, mach_app, h, List.length_take, Nat.min_eq_left (by omega), List.getD_eq_getElem?_getD, List.getElem?_eq_getElem hk, Nat.zero_add]
  show (stepP BS k _ s).bind (mach BS (k + 1) []) = _
  simp only [Option.getD_some]
  generalize stepP BS k NS[k] s = r
  cases r <;> rfl
theorem mach_none {BS : List Int} {NS : List Nd} {k : Nat} (h : mach BS 0 (NS.take k) ([], 0) = none) : ordP BS NS = false := by
  have : mach BS 0 NS ([], 0) = none := by
    conv => lhs; rw [← List.take_append_drop k NS]
    rw [mach_app, h]; rfl
  unfold ordP
  rw [this]
theorem ar_le (op : Int) : prZ op ≤ 3 := by
  unfold prZ
  split
  · omega
  · split
    · omega
    · unfold arZ
      repeat' split
      all_goals omega
theorem step_out {BS : List Int} {i : Nat} {n : Nd} {s : List Int × Nat} (h : wthn (prZ n.op) 0 s.1.length = false) : stepP BS i n s = none := by
  unfold stepP
  rw [h]; rfl
theorem step_parts {L : List Int} {n : Nd} (h : wthn (prZ n.op) 0 L.length = true) : ∃ A B, L = A ++ B ∧ prZ n.op = B.length ∧ B.length ≤ 3 := by
  have h3 := ar_le n.op
  simp only [wthn, Bool.and_eq_true, decide_eq_true_eq] at h
  refine ⟨L.take (L.length - (prZ n.op).toNat), L.drop (L.length - (prZ n.op).toNat), (List.take_append_drop _ _).symm, ?_, ?_⟩ <;> rw [List.length_drop] <;> omega
theorem step_in {BS : List Int} {i : Nat} {n : Nd} {A B : List Int} {bd : Nat} (hb : prZ n.op = B.length) :
    stepP BS i n (A ++ B, bd) = if fldP n bd && tkE B n then (if bd < BS.length ∧ BS.getD bd 0 = i then (if A.length = 0 then some ([], bd + 1) else none) else some (A ++ [(i : Int)], bd)) else none := by
  unfold stepP
  simp only [List.length_append, hb, Int.toNat_natCast, Nat.add_sub_cancel, List.take_left, List.drop_left]
  rw [show wthn (B.length : Int) 0 ((A.length + B.length : Nat) : Int) = true by simp [wthn]; omega, Bool.true_and]

theorem own_cut {w : World} {base : Nat} {e : TypeId} {g cap : Nat} {A B : List Int} (h : w.ownsRow base e 1 (.slice (some ⟨g, 0, none⟩) (A.length + B.length) cap) (A.length + B.length) (in64 (A ++ B))) : w.ownsRow base e 1 (.slice (some ⟨g, 0, none⟩) A.length cap) A.length (in64 A) := by
  obtain ⟨_, h2⟩ := h
  rcases h2 with ⟨h0, _⟩ | ⟨g', cap', cur, hv, hg, hh, hn, hcap, hsz, htake⟩
  · cases h0
  · cases hv
    refine ⟨by simp, .inr ⟨g, cap, cur, rfl, hg, hh, by omega, hcap, hsz, ?_⟩⟩
    have h3 : (cur.toList.take ((A.length + B.length) * 1)).take (A.length * 1) = (in64 (A ++ B)).take (A.length * 1) := by rw [htake]
    rw [List.take_take, Nat.min_eq_left (by omega)] at h3
    rw [h3, Nat.mul_one, show in64 (A ++ B) = in64 A ++ in64 B from List.map_append]
    exact List.take_left' (by simp)

theorem iz_cut {w : World} {base : Nat} {g cap : Nat} {A B : List Int} (h : w.ownsRow base 3 1 (.slice (some ⟨g, 0, none⟩) (A.length + B.length) cap) (A.length + B.length) (in64 (A ++ B))) : Iz w (some ⟨g, A.length, none⟩) B.length (cap - A.length) B := by
  obtain ⟨a, c, e, hi⟩ := Iz.of_owns h
  cases e
  refine ⟨rfl, by have := hi.le; omega, by have := hi.max; omega, ?_⟩
  rcases hi.cell with h0 | ⟨b, off, e, hb, hc⟩
  · exact .inl (by omega)
  · cases e
    refine .inr ⟨g, A.length, rfl, hb, fun i hi => ?_⟩
    have := hc (A.length + i) (by omega)
    rw [Nat.zero_add] at this
    rw [this, List.getD_eq_getElem?_getD, List.getD_eq_getElem?_getD, List.getElem?_append_right (by omega), Nat.add_sub_cancel_left]

theorem own_forms {w : World} {base size n : Nat} {e : TypeId} {v : Value} {xs : List Value} (h : w.ownsRow base e size v n xs) : (v = .slice none 0 0 ∧ n = 0) ∨ ∃ g cap, v = .slice (some ⟨g, 0, none⟩) n cap := by
  rcases h.2 with h | ⟨g, cap, cur, hv, -⟩
  · exact .inl h
  · exact .inr ⟨g, cap, hv⟩

theorem list_in {W : World} {base : Nat} {A : List Int} {v : Value} {ops : Array Oper} {rest : List Oper} {o : Oper} {a : Act} {Q : Exit → Act → World → Prop}
    (hgd : o.guard = none) (s x : Operand) (ho : o.op = .call { callee := .builtin .append, args := #[s, x], argTypes := #[43, 43] })
    (hs : a.eval s = v) (hO : W.ownsRow base 3 1 v A.length (in64 A)) (hbase : base ≤ W.heap.size) (q : Nat) (n : Int) (hx : a.eval x = .slice (some ⟨q, 0, none⟩) 1 1) (hc : HasC W q 3 #[.int .i64 n]) (h3 : A.length ≤ 2000000)
    (h : ∀ g cap w', w'.ownsRow base 3 1 (.slice (some ⟨g, 0, none⟩) (A.length + 1) cap) (A ++ [n]).length (in64 (A ++ [n])) → Kp [3] W w' → (∀ w0, Below base w0 W → w0.heap.size = base → Below base w0 w') → wpList Tryz.prog ops Q rest (a.put o.dst (.slice (some ⟨g, 0, none⟩) (A.length + 1) cap)) w') :
    wpList Tryz.prog ops Q (o :: rest) a W := by
  obtain ⟨i0, hi0, hz0, hz1, hz2⟩ := info_parts infoInt
  refine wpList_append_lies W hgd s x 43 ho base 3 i0 _ 1 8 Tryz.underlying43 hi0 hz0 hz1 hz2 rfl (by omega) v A.length (in64 A) hs hO ⟨q, 0, none⟩ 1 1 [.int .i64 n] hx rfl (news_one hc) (by simp [Value.oneCell']) (by omega) (by unfold maxLen; omega) (by omega) hbase W.heap.size rfl ?_
  intro g cap w' hown hgrow hat hlt
  have hk : Kp [3] W w' := Kp.grown hgrow fun k hk => by
    obtain ⟨_, cs, fr, hb⟩ := owns_block hO k hk
    exact ⟨cs, _, fr, hb, by simp⟩
  exact h g cap w' (by rw [List.length_append]; simpa using hown) hk (fun w0 hb h0 => hb.grown hgrow hbase fun k hk => (owns_block hO k hk).1)

set_option maxRecDepth 100000 in
set_option maxHeartbeats 8000000 in
theorem inOrder_any {W : World} {na ba da : Option Addr} {nl nc bl bc dl dc : Nat} {root : Int} {BS : List Int} {NS : List Nd} (hB : Iz W ba bl bc BS) (hN : Nz W da dl dc NS) (hd : dl ≤ 1024) :
    Calls Tryz.prog 89 #[.agg (tr4 (.slice na nl nc) (.slice ba bl bc) (.slice da dl dc) (.int .i64 root))] W fun e W' => e = .returned (.bool (ordP BS NS)) ∧ Below W.heap.size W W' := by
  have HBI := hide hB
  have HNI := hide hN
  have hbl : bl ≤ 9223372036854775807 := by have := hB.le; have := hB.max; unfold maxLen at *; omega
  have HLB := hide hB.len
  have HLN := hide hN.len
  clear hB hN
  go_enter Tryz.func89, Tryz.ntmps89
  go_wp2_with fail
  go_loopw [3, 4, 12] (fun v o i wr => ∃ (k bd : Nat) (L : List Int), k ≤ dl ∧ i = .int .i64 k ∧ o = .int .i64 bd ∧ bd ≤ k ∧ L.length ≤ k ∧ Hid (mach BS 0 (NS.take k) ([], 0) = some (L, bd)) ∧ Hid (wr.ownsRow W.heap.size 3 1 v L.length (in64 L)) ∧ Hid (HasC wr W.heap.size 46 (tr4 (.slice na nl nc) (.slice ba bl bc) (.slice da dl dc) (.int .i64 root))) ∧ Hid (Below W.heap.size W wr)) (fun _ _ i _ => dl - (intOf i).toNat)
  case atStart => exact ⟨0, 0, [], Nat.zero_le _, rfl, rfl, Nat.le_refl _, Nat.le_refl _, hide rfl, hide (World.ownsRow_nil _ _ _ _), hide (HasC.new W _ _), hide (bel1 _ _)⟩
  case round =>
    obtain ⟨k, bd, L, hk, rfl, rfl, hbd, hL, HM, HO, HC, HB⟩ := hrel
    rename World => V
    by_cases hlt : k < dl
    · obtain ⟨g, off, rfl, hat⟩ := (HNI.out.later HB.out).at (by omega)
      obtain ⟨e0, e1, e2, e3, e4, e5, e6, e7, e8⟩ := hat k hlt
      clear hat
      have hi0 : (0 : Int) ≤ k := by omega
      have hi1 : (k : Int) < dl := by omega
      have HS := hide (mach_succ (k := k) (by rw [HLN.out]; exact hlt) HM.out)
      generalize NS.getD k n0 = n at *
      obtain ⟨va, vc, rfl, HI⟩ := Iz.of_owns HO.out
      have HLL := hide HI.len
      clear HI
      go_wp2_with fail
      refine (parts_any _ _).mono ?_
      rintro e V1 ⟨rfl, hV1⟩
      have HN1 : Hid (HasC V1 V.heap.size 78 (ndA n)) := hide (by rw [hV1]; exact HasC.new V _ _)
      have HC1 : Hid (HasC V1 W.heap.size 46 (tr4 (.slice na nl nc) (.slice ba bl bc) (.slice (some ⟨g, off, none⟩) dl dc) (.int .i64 root))) := hide (by rw [hV1]; exact HC.out.alloc _)
      have HO1 : Hid (V1.ownsRow W.heap.size 3 1 (.slice va L.length vc) L.length (in64 L)) := hide (by rw [hV1]; exact HO.out.alloc _)
      have HB1 : Hid (Below W.heap.size W V1) := hide (by rw [hV1]; exact bel HB.out (bel1 _ _))
      clear hV1 HC HO HB e0 e1 e2 e3 e4 e5 e6 e7 e8
      generalize V.heap.size = q at *
      obtain ⟨f0, f1, f2, f3, f4, f5, f6, f7, f8⟩ := HN1.out.nine
      cases hw : wthn (prZ n.op) 0 L.length with
      | false =>
        have HF := hide (mach_none (HS.out.trans (step_out hw)))
        have HW := hide fun W => pwithin_any (prZ n.op) 0 L.length W
        rw [hw] at HW
        clear hw
        generalize prZ n.op = pz at *
        go_wp2_with fail
        refine (HW.out _).mono ?_
        rintro e V2 ⟨rfl, rfl⟩
        go_wp2_with fail
        go_ret
        exact ⟨ret_bool HF.out.symm, HB1.out⟩
      | true =>
        obtain ⟨A, B, rfl, hp, hB3⟩ := step_parts hw
        have HS1 := hide (HS.out.trans (step_in hp))
        clear HS
        rw [List.length_append] at HO1 hL hw ⊢
        have HW := hide fun W => pwithin_any (prZ n.op) 0 ((A.length + B.length : Nat) : Int) W
        rw [hw] at HW
        rw [hp] at HW ⊢
        clear hw
        have HFd := hide fun W => fields_any n bd W (by omega) (by omega)
        cases hf : fldP n bd with
        | false =>
          have HF := hide (mach_none (HS1.out.trans (by rw [hf]; rfl)))
          rw [hf] at HFd
          clear hf
          go_wp2_with fail
          refine (HW.out _).mono ?_
          rintro e V2 ⟨rfl, rfl⟩
          go_wp2_with fail
          refine (HFd.out _).mono ?_
          rintro e V2 ⟨rfl, hb2⟩
          have HB2 := hide (bel HB1.out hb2)
          clear hb2
          go_wp2_with fail
          go_ret
          exact ⟨ret_bool HF.out.symm, HB2.out⟩
        | true =>
          rw [hf] at HFd
          go_wp2_with fail
          refine (HW.out _).mono ?_
          rintro e V2 ⟨rfl, rfl⟩
          go_wp2_with fail
          refine (HFd.out _).mono ?_
          rintro e V2 ⟨rfl, hb2⟩
          have HB2 := hide (bel HB1.out hb2)
          have HN2 := hide (HN1.out.below hb2)
          have HC2 := hide (HC1.out.below hb2)
          have HO2 := hide (owns_kp HO1.out (Kp.of_below [] hb2) (by decide))
          clear hb2 HFd HW HC1 HO1 HB1 HN1 f0 f1 f2 f3 f4 f5 f6 f7 f8
          obtain ⟨f0, f1, f2, f3, -, -, -, -, -⟩ := HN2.out.nine
          have HEQ := hide fun w => eq_arr3 9998 (B.getD 0 0) (B.getD 1 0) (B.getD 2 0) n.a n.b n.c w
          go_upto_region 10 with fail
          have HA1 := hide (Iz.of_owns HO2.out)
          rcases own_forms HO2.out with ⟨hv, h0⟩ | ⟨g2, cap2, hv⟩
          · injection hv with hv1 hv2 hv3
            subst hv1 hv3
            have hA0 : A.length = 0 := by omega
            have hB0 : B.length = 0 := by omega
            have HOA : Hid (V2.ownsRow W.heap.size 3 1 (.slice none 0 0) A.length (in64 A)) := hide (by rw [List.length_eq_zero_iff.1 hA0]; exact World.ownsRow_nil _ _ _ _)
            have HTk := hide (taken_any (W := V2.drew) (a := none) (n := 0) (cap := 0) (L := B) ⟨hB0, by omega, by unfold maxLen; omega, .inl rfl⟩ (by omega))
            clear HO2 h0 hv2 HA1
            rw [hA0, hB0]
            cases htk : (B.getD 0 0 == n.a && (B.getD 1 0 == n.b && B.getD 2 0 == n.c)) with
            | false =>
              have HF := hide (mach_none (HS1.out.trans (by unfold tkE; rw [hf, htk]; rfl)))
              rw [htk] at HEQ
              clear htk hf
              have heq := HEQ.out
              go_region_held3 (fun w' => w'.cell? ⟨q, 1, none⟩ = some (.int .i64 n.a) ∧ w'.cell? ⟨q, 2, none⟩ = some (.int .i64 n.b) ∧ w'.cell? ⟨q, 3, none⟩ = some (.int .i64 n.c))
                (first | exact ⟨f1, f2, f3⟩ | exact ⟨t1, t2, t3⟩ | go_keep)
                ((first
                  | (go_at_call 123; refine (HTk.out).mono ?_; rintro e' V3 ⟨rfl, hb3⟩; have hb4 := bel (below_drew V2) hb3; obtain ⟨t0, t1, t2, t3, -, -, -, -, -⟩ := (HN2.out.below hb4).nine; have HB3 := hide (bel HB2.out hb4); have HC3 := hide (HC2.out.below hb4); have HO3 := hide (owns_kp HOA.out (Kp.of_below [] hb4) (by decide)); clear hb3 hb4)))
              all_goals
                go_wp2_with fail
                go_ret
                exact ⟨ret_bool HF.out.symm, HB3.out⟩
            | true =>
              have HS2 : Hid (mach BS 0 (NS.take (k + 1)) ([], 0) = (if bd < BS.length ∧ BS.getD bd 0 = (k : Int) then (if A.length = 0 then some ([], bd + 1) else none) else some (A ++ [(k : Int)], bd))) := hide (HS1.out.trans (by unfold tkE; rw [hf, htk]; rfl))
              rw [htk] at HEQ
              clear htk hf HS1
              have heq := HEQ.out
              by_cases hbb : bd < bl
              · obtain ⟨b0, boff, rfl, hbc⟩ : ∃ b off, ba = some ⟨b, off, none⟩ ∧ W.cell? ⟨b, off + bd, none⟩ = some (.int .i64 (BS.getD bd 0)) := by
                  rcases HBI.out.cell with h0 | ⟨b, off, ha, hlb, hc⟩
                  · omega
                  · exact ⟨b, off, ha, hc bd hbb⟩
                have HBC := hide hbc
                clear hbc
                have hj0 : (0 : Int) ≤ bd := by omega
                have hj1 : (bd : Int) < bl := by omega
                by_cases hxk : BS.getD bd 0 = k
                · rw [hxk] at HBC
                  · have HS3 : Hid (mach BS 0 (NS.take (k + 1)) ([], 0) = some ([], bd + 1)) := hide (HS2.out.trans (by rw [if_pos ⟨by rw [HLB.out]; exact hbb, hxk⟩, if_pos hA0]))
                    clear HS2 hxk
                    go_region_held3 (fun w' => w'.cell? ⟨q, 1, none⟩ = some (.int .i64 n.a) ∧ w'.cell? ⟨q, 2, none⟩ = some (.int .i64 n.b) ∧ w'.cell? ⟨q, 3, none⟩ = some (.int .i64 n.c))
                      (first | exact ⟨f1, f2, f3⟩ | exact ⟨t1, t2, t3⟩ | go_keep)
                      ((first
                        | (go_at_call 123; refine (HTk.out).mono ?_; rintro e' V3 ⟨rfl, hb3⟩; have hb4 := bel (below_drew V2) hb3; obtain ⟨t0, t1, t2, t3, -, -, -, -, -⟩ := (HN2.out.below hb4).nine; have HB3 := hide (bel HB2.out hb4); have HC3 := hide (HC2.out.below hb4); have HO3 := hide (owns_kp HOA.out (Kp.of_below [] hb4) (by decide)); clear hb3 hb4)))
                    all_goals
                      go_wp2_with (at_builtin; refine list_in (A := A) rfl _ _ rfl rfl (HO3.out.alloc _) (by have := HB3.out.size; simp; omega) _ k rfl (HasC.new _ _ _) (by omega) ?_; intro g4 cap4 V4 hown hk4 hold; have HB4 := hide (hold W (bel HB3.out (bel1 _ _)) rfl); have HC4 := hide ((HC3.out.alloc _).kp hk4 (by decide)); have HO4 := hide hown; clear hown hk4 hold; have hx1 := HC4.out.cell 1 rfl; have hx2 := (HB4.out.cell (p := ⟨b0, boff + bd, none⟩) (World.block_lt_of_cell? W _ HBC.out)).trans HBC.out)
                      go_roundw
                      case rel => exact ⟨k + 1, bd + 1, [], by omega, by go_num, by go_num, by omega, by simp, hide HS3.out, hide (World.ownsRow_nil _ _ _ _), hide HC4.out, hide HB4.out⟩
                      case measure => simp [intOf]; omega
                · have HS3 := hide (HS2.out.trans (if_neg (fun h => hxk h.2)))
                  have hxk' : (BS.getD bd 0 == (k : Int)) = false := by simpa using hxk
                  clear HS2 hxk
                  generalize BS.getD bd 0 = bx at *
                  go_region_held3 (fun w' => w'.cell? ⟨q, 1, none⟩ = some (.int .i64 n.a) ∧ w'.cell? ⟨q, 2, none⟩ = some (.int .i64 n.b) ∧ w'.cell? ⟨q, 3, none⟩ = some (.int .i64 n.c))
                    (first | exact ⟨f1, f2, f3⟩ | exact ⟨t1, t2, t3⟩ | go_keep)
                    ((first
                      | (go_at_call 123; refine (HTk.out).mono ?_; rintro e' V3 ⟨rfl, hb3⟩; have hb4 := bel (below_drew V2) hb3; obtain ⟨t0, t1, t2, t3, -, -, -, -, -⟩ := (HN2.out.below hb4).nine; have HB3 := hide (bel HB2.out hb4); have HC3 := hide (HC2.out.below hb4); have HO3 := hide (owns_kp HOA.out (Kp.of_below [] hb4) (by decide)); clear hb3 hb4)))
                  all_goals
                    go_wp2_with (at_builtin; refine list_in (A := A) rfl _ _ rfl rfl (HO3.out.alloc _) (by have := HB3.out.size; simp; omega) _ k rfl (HasC.new _ _ _) (by omega) ?_; intro g4 cap4 V4 hown hk4 hold; have HB4 := hide (hold W (bel HB3.out (bel1 _ _)) rfl); have HC4 := hide ((HC3.out.alloc _).kp hk4 (by decide)); have HO4 := hide hown; clear hown hk4 hold; have hx1 := HC4.out.cell 1 rfl; have hx2 := (HB4.out.cell (p := ⟨b0, boff + bd, none⟩) (World.block_lt_of_cell? W _ HBC.out)).trans HBC.out)
                    go_roundw
                    case rel => exact ⟨k + 1, bd, A ++ [(k : Int)], by omega, by go_num, by go_num, by omega, by simp; omega, hide HS3.out, hide (by first | exact HO4.out | (have h4 := HO4.out; rw [hA0] at h4; exact h4)), hide HC4.out, hide HB4.out⟩
                    case measure => simp [intOf]; omega
              · have HS3 := hide (HS2.out.trans (if_neg (fun h => hbb (by rw [← HLB.out]; exact h.1))))
                clear HS2
                go_region_held3 (fun w' => w'.cell? ⟨q, 1, none⟩ = some (.int .i64 n.a) ∧ w'.cell? ⟨q, 2, none⟩ = some (.int .i64 n.b) ∧ w'.cell? ⟨q, 3, none⟩ = some (.int .i64 n.c))
                  (first | exact ⟨f1, f2, f3⟩ | exact ⟨t1, t2, t3⟩ | go_keep)
                  ((first
                    | (go_at_call 123; refine (HTk.out).mono ?_; rintro e' V3 ⟨rfl, hb3⟩; have hb4 := bel (below_drew V2) hb3; obtain ⟨t0, t1, t2, t3, -, -, -, -, -⟩ := (HN2.out.below hb4).nine; have HB3 := hide (bel HB2.out hb4); have HC3 := hide (HC2.out.below hb4); have HO3 := hide (owns_kp HOA.out (Kp.of_below [] hb4) (by decide)); clear hb3 hb4)))
                all_goals
                  go_wp2_with (at_builtin; refine list_in (A := A) rfl _ _ rfl rfl (HO3.out.alloc _) (by have := HB3.out.size; simp; omega) _ k rfl (HasC.new _ _ _) (by omega) ?_; intro g4 cap4 V4 hown hk4 hold; have HB4 := hide (hold W (bel HB3.out (bel1 _ _)) rfl); have HC4 := hide ((HC3.out.alloc _).kp hk4 (by decide)); have HO4 := hide hown; clear hown hk4 hold; have hx1 := HC4.out.cell 1 rfl)
                  go_roundw
                  case rel => exact ⟨k + 1, bd, A ++ [(k : Int)], by omega, by go_num, by go_num, by omega, by simp; omega, hide HS3.out, hide (by first | exact HO4.out | (have h4 := HO4.out; rw [hA0] at h4; exact h4)), hide HC4.out, hide HB4.out⟩
                  case measure => simp [intOf]; omega
          · injection hv with hv1 hv2 hv3
            subst hv1 hv3
            have hcap : A.length + B.length ≤ vc := by obtain ⟨a', c', e', hi'⟩ := HA1.out; cases e'; exact hi'.le
            have hcap2 : vc ≤ 9223372036854775807 := by obtain ⟨a', c', e', hi'⟩ := HA1.out; cases e'; have := hi'.max; unfold maxLen at this; omega
            have HOA := hide (own_cut HO2.out)
            clear HA1
            by_cases hvc : vc = A.length
            · have hB0 : B.length = 0 := by omega
              have HTk := hide (taken_any (W := V2.drew) (a := some ⟨g2, 0, none⟩) (n := 0) (cap := 0) (L := B) ⟨hB0, by omega, by unfold maxLen; omega, .inl rfl⟩ (by omega))
              subst hvc
              clear HO2
              rw [hB0]
              cases htk : (B.getD 0 0 == n.a && (B.getD 1 0 == n.b && B.getD 2 0 == n.c)) with
              | false =>
                have HF := hide (mach_none (HS1.out.trans (by unfold tkE; rw [hf, htk]; rfl)))
                rw [htk] at HEQ
                clear htk hf
                have heq := HEQ.out
                go_region_held3 (fun w' => w'.cell? ⟨q, 1, none⟩ = some (.int .i64 n.a) ∧ w'.cell? ⟨q, 2, none⟩ = some (.int .i64 n.b) ∧ w'.cell? ⟨q, 3, none⟩ = some (.int .i64 n.c))
                  (first | exact ⟨f1, f2, f3⟩ | exact ⟨t1, t2, t3⟩ | go_keep)
                  ((first
                    | (go_at_call 123; refine (HTk.out).mono ?_; rintro e' V3 ⟨rfl, hb3⟩; have hb4 := bel (below_drew V2) hb3; obtain ⟨t0, t1, t2, t3, -, -, -, -, -⟩ := (HN2.out.below hb4).nine; have HB3 := hide (bel HB2.out hb4); have HC3 := hide (HC2.out.below hb4); have HO3 := hide (owns_kp HOA.out (Kp.of_below [] hb4) (by decide)); clear hb3 hb4)))
                all_goals
                  go_wp2_with fail
                  go_ret
                  exact ⟨ret_bool HF.out.symm, HB3.out⟩
              | true =>
                have HS2 : Hid (mach BS 0 (NS.take (k + 1)) ([], 0) = (if bd < BS.length ∧ BS.getD bd 0 = (k : Int) then (if A.length = 0 then some ([], bd + 1) else none) else some (A ++ [(k : Int)], bd))) := hide (HS1.out.trans (by unfold tkE; rw [hf, htk]; rfl))
                rw [htk] at HEQ
                clear htk hf HS1
                have heq := HEQ.out
                by_cases hbb : bd < bl
                · obtain ⟨b0, boff, rfl, hbc⟩ : ∃ b off, ba = some ⟨b, off, none⟩ ∧ W.cell? ⟨b, off + bd, none⟩ = some (.int .i64 (BS.getD bd 0)) := by
                    rcases HBI.out.cell with h0 | ⟨b, off, ha, hlb, hc⟩
                    · omega
                    · exact ⟨b, off, ha, hc bd hbb⟩
                  have HBC := hide hbc
                  clear hbc
                  have hj0 : (0 : Int) ≤ bd := by omega
                  have hj1 : (bd : Int) < bl := by omega
                  by_cases hxk : BS.getD bd 0 = k
                  · rw [hxk] at HBC
                    by_cases hA0 : A.length = 0
                    · have HS3 : Hid (mach BS 0 (NS.take (k + 1)) ([], 0) = some ([], bd + 1)) := hide (HS2.out.trans (by rw [if_pos ⟨by rw [HLB.out]; exact hbb, hxk⟩, if_pos hA0]))
                      have hA1 : ((A.length : Int) + 1 != 1) = false := by simp; omega
                      clear HS2 hxk hA0
                      go_region_held3 (fun w' => w'.cell? ⟨q, 1, none⟩ = some (.int .i64 n.a) ∧ w'.cell? ⟨q, 2, none⟩ = some (.int .i64 n.b) ∧ w'.cell? ⟨q, 3, none⟩ = some (.int .i64 n.c))
                        (first | exact ⟨f1, f2, f3⟩ | exact ⟨t1, t2, t3⟩ | go_keep)
                        ((first
                          | (go_at_call 123; refine (HTk.out).mono ?_; rintro e' V3 ⟨rfl, hb3⟩; have hb4 := bel (below_drew V2) hb3; obtain ⟨t0, t1, t2, t3, -, -, -, -, -⟩ := (HN2.out.below hb4).nine; have HB3 := hide (bel HB2.out hb4); have HC3 := hide (HC2.out.below hb4); have HO3 := hide (owns_kp HOA.out (Kp.of_below [] hb4) (by decide)); clear hb3 hb4)))
                      all_goals
                        go_wp2_with (at_builtin; refine list_in (A := A) rfl _ _ rfl rfl (HO3.out.alloc _) (by have := HB3.out.size; simp; omega) _ k rfl (HasC.new _ _ _) (by omega) ?_; intro g4 cap4 V4 hown hk4 hold; have HB4 := hide (hold W (bel HB3.out (bel1 _ _)) rfl); have HC4 := hide ((HC3.out.alloc _).kp hk4 (by decide)); have HO4 := hide hown; clear hown hk4 hold; have hx1 := HC4.out.cell 1 rfl; have hx2 := (HB4.out.cell (p := ⟨b0, boff + bd, none⟩) (World.block_lt_of_cell? W _ HBC.out)).trans HBC.out)
                        go_roundw
                        case rel => exact ⟨k + 1, bd + 1, [], by omega, by go_num, by go_num, by omega, by simp, hide HS3.out, hide (World.ownsRow_nil _ _ _ _), hide HC4.out, hide HB4.out⟩
                        case measure => simp [intOf]; omega
                    · have HF := hide (mach_none (HS2.out.trans (by rw [if_pos ⟨by rw [HLB.out]; exact hbb, hxk⟩, if_neg hA0])))
                      have hA1 : ((A.length : Int) + 1 != 1) = true := by simp; omega
                      clear HS2 hxk
                      go_region_held3 (fun w' => w'.cell? ⟨q, 1, none⟩ = some (.int .i64 n.a) ∧ w'.cell? ⟨q, 2, none⟩ = some (.int .i64 n.b) ∧ w'.cell? ⟨q, 3, none⟩ = some (.int .i64 n.c))
                        (first | exact ⟨f1, f2, f3⟩ | exact ⟨t1, t2, t3⟩ | go_keep)
                        ((first
                          | (go_at_call 123; refine (HTk.out).mono ?_; rintro e' V3 ⟨rfl, hb3⟩; have hb4 := bel (below_drew V2) hb3; obtain ⟨t0, t1, t2, t3, -, -, -, -, -⟩ := (HN2.out.below hb4).nine; have HB3 := hide (bel HB2.out hb4); have HC3 := hide (HC2.out.below hb4); have HO3 := hide (owns_kp HOA.out (Kp.of_below [] hb4) (by decide)); clear hb3 hb4)))
                      all_goals
                        go_wp2_with (at_builtin; refine list_in (A := A) rfl _ _ rfl rfl (HO3.out.alloc _) (by have := HB3.out.size; simp; omega) _ k rfl (HasC.new _ _ _) (by omega) ?_; intro g4 cap4 V4 hown hk4 hold; have HB4 := hide (hold W (bel HB3.out (bel1 _ _)) rfl); have HC4 := hide ((HC3.out.alloc _).kp hk4 (by decide)); have HO4 := hide hown; clear hown hk4 hold; have hx1 := HC4.out.cell 1 rfl; have hx2 := (HB4.out.cell (p := ⟨b0, boff + bd, none⟩) (World.block_lt_of_cell? W _ HBC.out)).trans HBC.out)
                        go_ret
                        exact ⟨ret_bool HF.out.symm, HB4.out⟩
                  · have HS3 := hide (HS2.out.trans (if_neg (fun h => hxk h.2)))
                    have hxk' : (BS.getD bd 0 == (k : Int)) = false := by simpa using hxk
                    clear HS2 hxk
                    generalize BS.getD bd 0 = bx at *
                    go_region_held3 (fun w' => w'.cell? ⟨q, 1, none⟩ = some (.int .i64 n.a) ∧ w'.cell? ⟨q, 2, none⟩ = some (.int .i64 n.b) ∧ w'.cell? ⟨q, 3, none⟩ = some (.int .i64 n.c))
                      (first | exact ⟨f1, f2, f3⟩ | exact ⟨t1, t2, t3⟩ | go_keep)
                      ((first
                        | (go_at_call 123; refine (HTk.out).mono ?_; rintro e' V3 ⟨rfl, hb3⟩; have hb4 := bel (below_drew V2) hb3; obtain ⟨t0, t1, t2, t3, -, -, -, -, -⟩ := (HN2.out.below hb4).nine; have HB3 := hide (bel HB2.out hb4); have HC3 := hide (HC2.out.below hb4); have HO3 := hide (owns_kp HOA.out (Kp.of_below [] hb4) (by decide)); clear hb3 hb4)))
                    all_goals
                      go_wp2_with (at_builtin; refine list_in (A := A) rfl _ _ rfl rfl (HO3.out.alloc _) (by have := HB3.out.size; simp; omega) _ k rfl (HasC.new _ _ _) (by omega) ?_; intro g4 cap4 V4 hown hk4 hold; have HB4 := hide (hold W (bel HB3.out (bel1 _ _)) rfl); have HC4 := hide ((HC3.out.alloc _).kp hk4 (by decide)); have HO4 := hide hown; clear hown hk4 hold; have hx1 := HC4.out.cell 1 rfl; have hx2 := (HB4.out.cell (p := ⟨b0, boff + bd, none⟩) (World.block_lt_of_cell? W _ HBC.out)).trans HBC.out)
                      go_roundw
                      case rel => exact ⟨k + 1, bd, A ++ [(k : Int)], by omega, by go_num, by go_num, by omega, by simp; omega, hide HS3.out, hide (by first | exact HO4.out | (have h4 := HO4.out; rw [hA0] at h4; exact h4)), hide HC4.out, hide HB4.out⟩
                      case measure => simp [intOf]; omega
                · have HS3 := hide (HS2.out.trans (if_neg (fun h => hbb (by rw [← HLB.out]; exact h.1))))
                  clear HS2
                  go_region_held3 (fun w' => w'.cell? ⟨q, 1, none⟩ = some (.int .i64 n.a) ∧ w'.cell? ⟨q, 2, none⟩ = some (.int .i64 n.b) ∧ w'.cell? ⟨q, 3, none⟩ = some (.int .i64 n.c))
                    (first | exact ⟨f1, f2, f3⟩ | exact ⟨t1, t2, t3⟩ | go_keep)
                    ((first
                      | (go_at_call 123; refine (HTk.out).mono ?_; rintro e' V3 ⟨rfl, hb3⟩; have hb4 := bel (below_drew V2) hb3; obtain ⟨t0, t1, t2, t3, -, -, -, -, -⟩ := (HN2.out.below hb4).nine; have HB3 := hide (bel HB2.out hb4); have HC3 := hide (HC2.out.below hb4); have HO3 := hide (owns_kp HOA.out (Kp.of_below [] hb4) (by decide)); clear hb3 hb4)))
                  all_goals
                    go_wp2_with (at_builtin; refine list_in (A := A) rfl _ _ rfl rfl (HO3.out.alloc _) (by have := HB3.out.size; simp; omega) _ k rfl (HasC.new _ _ _) (by omega) ?_; intro g4 cap4 V4 hown hk4 hold; have HB4 := hide (hold W (bel HB3.out (bel1 _ _)) rfl); have HC4 := hide ((HC3.out.alloc _).kp hk4 (by decide)); have HO4 := hide hown; clear hown hk4 hold; have hx1 := HC4.out.cell 1 rfl)
                    go_roundw
                    case rel => exact ⟨k + 1, bd, A ++ [(k : Int)], by omega, by go_num, by go_num, by omega, by simp; omega, hide HS3.out, hide (by first | exact HO4.out | (have h4 := HO4.out; rw [hA0] at h4; exact h4)), hide HC4.out, hide HB4.out⟩
                    case measure => simp [intOf]; omega
            · have HTk := hide (taken_any (W := V2.drew) ((iz_cut HO2.out).later (below_drew V2)) hB3)
              clear HO2
              have hz0 : (0 : Int) ≤ A.length := by omega
              have hz1 : (A.length : Int) ≤ (A.length + B.length : Nat) := by omega
              have hz2 : (A.length : Int) ≤ vc := by omega
              have hz3 : (A.length : Int) ≤ (A.length : Int) + (B.length : Int) := by omega
              have hz4 : (0 : Int) ≤ (B.length : Int) := by omega
              cases htk : (B.getD 0 0 == n.a && (B.getD 1 0 == n.b && B.getD 2 0 == n.c)) with
              | false =>
                have HF := hide (mach_none (HS1.out.trans (by unfold tkE; rw [hf, htk]; rfl)))
                rw [htk] at HEQ
                clear htk hf
                have heq := HEQ.out
                go_region_held3 (fun w' => w'.cell? ⟨q, 1, none⟩ = some (.int .i64 n.a) ∧ w'.cell? ⟨q, 2, none⟩ = some (.int .i64 n.b) ∧ w'.cell? ⟨q, 3, none⟩ = some (.int .i64 n.c))
                  (first | exact ⟨f1, f2, f3⟩ | exact ⟨t1, t2, t3⟩ | go_keep)
                  ((first
                    | (go_at_call 123; refine (HTk.out).mono ?_; rintro e' V3 ⟨rfl, hb3⟩; have hb4 := bel (below_drew V2) hb3; obtain ⟨t0, t1, t2, t3, -, -, -, -, -⟩ := (HN2.out.below hb4).nine; have HB3 := hide (bel HB2.out hb4); have HC3 := hide (HC2.out.below hb4); have HO3 := hide (owns_kp HOA.out (Kp.of_below [] hb4) (by decide)); clear hb3 hb4)))
                all_goals
                  go_wp2_with fail
                  go_ret
                  exact ⟨ret_bool HF.out.symm, HB3.out⟩
              | true =>
                have HS2 : Hid (mach BS 0 (NS.take (k + 1)) ([], 0) = (if bd < BS.length ∧ BS.getD bd 0 = (k : Int) then (if A.length = 0 then some ([], bd + 1) else none) else some (A ++ [(k : Int)], bd))) := hide (HS1.out.trans (by unfold tkE; rw [hf, htk]; rfl))
                rw [htk] at HEQ
                clear htk hf HS1
                have heq := HEQ.out
                by_cases hbb : bd < bl
                · obtain ⟨b0, boff, rfl, hbc⟩ : ∃ b off, ba = some ⟨b, off, none⟩ ∧ W.cell? ⟨b, off + bd, none⟩ = some (.int .i64 (BS.getD bd 0)) := by
                    rcases HBI.out.cell with h0 | ⟨b, off, ha, hlb, hc⟩
                    · omega
                    · exact ⟨b, off, ha, hc bd hbb⟩
                  have HBC := hide hbc
                  clear hbc
                  have hj0 : (0 : Int) ≤ bd := by omega
                  have hj1 : (bd : Int) < bl := by omega
                  by_cases hxk : BS.getD bd 0 = k
                  · rw [hxk] at HBC
                    by_cases hA0 : A.length = 0
                    · have HS3 : Hid (mach BS 0 (NS.take (k + 1)) ([], 0) = some ([], bd + 1)) := hide (HS2.out.trans (by rw [if_pos ⟨by rw [HLB.out]; exact hbb, hxk⟩, if_pos hA0]))
                      have hA1 : ((A.length : Int) + 1 != 1) = false := by simp; omega
                      clear HS2 hxk hA0
                      go_region_held3 (fun w' => w'.cell? ⟨q, 1, none⟩ = some (.int .i64 n.a) ∧ w'.cell? ⟨q, 2, none⟩ = some (.int .i64 n.b) ∧ w'.cell? ⟨q, 3, none⟩ = some (.int .i64 n.c))
                        (first | exact ⟨f1, f2, f3⟩ | exact ⟨t1, t2, t3⟩ | go_keep)
                        ((first
                          | (go_at_call 123; refine (HTk.out).mono ?_; rintro e' V3 ⟨rfl, hb3⟩; have hb4 := bel (below_drew V2) hb3; obtain ⟨t0, t1, t2, t3, -, -, -, -, -⟩ := (HN2.out.below hb4).nine; have HB3 := hide (bel HB2.out hb4); have HC3 := hide (HC2.out.below hb4); have HO3 := hide (owns_kp HOA.out (Kp.of_below [] hb4) (by decide)); clear hb3 hb4)))
                      all_goals
                        go_wp2_with (at_builtin; refine list_in (A := A) rfl _ _ rfl rfl (HO3.out.alloc _) (by have := HB3.out.size; simp; omega) _ k rfl (HasC.new _ _ _) (by omega) ?_; intro g4 cap4 V4 hown hk4 hold; have HB4 := hide (hold W (bel HB3.out (bel1 _ _)) rfl); have HC4 := hide ((HC3.out.alloc _).kp hk4 (by decide)); have HO4 := hide hown; clear hown hk4 hold; have hx1 := HC4.out.cell 1 rfl; have hx2 := (HB4.out.cell (p := ⟨b0, boff + bd, none⟩) (World.block_lt_of_cell? W _ HBC.out)).trans HBC.out)
                        go_roundw
                        case rel => exact ⟨k + 1, bd + 1, [], by omega, by go_num, by go_num, by omega, by simp, hide HS3.out, hide (World.ownsRow_nil _ _ _ _), hide HC4.out, hide HB4.out⟩
                        case measure => simp [intOf]; omega
                    · have HF := hide (mach_none (HS2.out.trans (by rw [if_pos ⟨by rw [HLB.out]; exact hbb, hxk⟩, if_neg hA0])))
                      have hA1 : ((A.length : Int) + 1 != 1) = true := by simp; omega
                      clear HS2 hxk
                      go_region_held3 (fun w' => w'.cell? ⟨q, 1, none⟩ = some (.int .i64 n.a) ∧ w'.cell? ⟨q, 2, none⟩ = some (.int .i64 n.b) ∧ w'.cell? ⟨q, 3, none⟩ = some (.int .i64 n.c))
                        (first | exact ⟨f1, f2, f3⟩ | exact ⟨t1, t2, t3⟩ | go_keep)
                        ((first
                          | (go_at_call 123; refine (HTk.out).mono ?_; rintro e' V3 ⟨rfl, hb3⟩; have hb4 := bel (below_drew V2) hb3; obtain ⟨t0, t1, t2, t3, -, -, -, -, -⟩ := (HN2.out.below hb4).nine; have HB3 := hide (bel HB2.out hb4); have HC3 := hide (HC2.out.below hb4); have HO3 := hide (owns_kp HOA.out (Kp.of_below [] hb4) (by decide)); clear hb3 hb4)))
                      all_goals
                        go_wp2_with (at_builtin; refine list_in (A := A) rfl _ _ rfl rfl (HO3.out.alloc _) (by have := HB3.out.size; simp; omega) _ k rfl (HasC.new _ _ _) (by omega) ?_; intro g4 cap4 V4 hown hk4 hold; have HB4 := hide (hold W (bel HB3.out (bel1 _ _)) rfl); have HC4 := hide ((HC3.out.alloc _).kp hk4 (by decide)); have HO4 := hide hown; clear hown hk4 hold; have hx1 := HC4.out.cell 1 rfl; have hx2 := (HB4.out.cell (p := ⟨b0, boff + bd, none⟩) (World.block_lt_of_cell? W _ HBC.out)).trans HBC.out)
                        go_ret
                        exact ⟨ret_bool HF.out.symm, HB4.out⟩
                  · have HS3 := hide (HS2.out.trans (if_neg (fun h => hxk h.2)))
                    have hxk' : (BS.getD bd 0 == (k : Int)) = false := by simpa using hxk
                    clear HS2 hxk
                    generalize BS.getD bd 0 = bx at *
                    go_region_held3 (fun w' => w'.cell? ⟨q, 1, none⟩ = some (.int .i64 n.a) ∧ w'.cell? ⟨q, 2, none⟩ = some (.int .i64 n.b) ∧ w'.cell? ⟨q, 3, none⟩ = some (.int .i64 n.c))
                      (first | exact ⟨f1, f2, f3⟩ | exact ⟨t1, t2, t3⟩ | go_keep)
                      ((first
                        | (go_at_call 123; refine (HTk.out).mono ?_; rintro e' V3 ⟨rfl, hb3⟩; have hb4 := bel (below_drew V2) hb3; obtain ⟨t0, t1, t2, t3, -, -, -, -, -⟩ := (HN2.out.below hb4).nine; have HB3 := hide (bel HB2.out hb4); have HC3 := hide (HC2.out.below hb4); have HO3 := hide (owns_kp HOA.out (Kp.of_below [] hb4) (by decide)); clear hb3 hb4)))
                    all_goals
                      go_wp2_with (at_builtin; refine list_in (A := A) rfl _ _ rfl rfl (HO3.out.alloc _) (by have := HB3.out.size; simp; omega) _ k rfl (HasC.new _ _ _) (by omega) ?_; intro g4 cap4 V4 hown hk4 hold; have HB4 := hide (hold W (bel HB3.out (bel1 _ _)) rfl); have HC4 := hide ((HC3.out.alloc _).kp hk4 (by decide)); have HO4 := hide hown; clear hown hk4 hold; have hx1 := HC4.out.cell 1 rfl; have hx2 := (HB4.out.cell (p := ⟨b0, boff + bd, none⟩) (World.block_lt_of_cell? W _ HBC.out)).trans HBC.out)
                      go_roundw
                      case rel => exact ⟨k + 1, bd, A ++ [(k : Int)], by omega, by go_num, by go_num, by omega, by simp; omega, hide HS3.out, hide (by first | exact HO4.out | (have h4 := HO4.out; rw [hA0] at h4; exact h4)), hide HC4.out, hide HB4.out⟩
                      case measure => simp [intOf]; omega
                · have HS3 := hide (HS2.out.trans (if_neg (fun h => hbb (by rw [← HLB.out]; exact h.1))))
                  clear HS2
                  go_region_held3 (fun w' => w'.cell? ⟨q, 1, none⟩ = some (.int .i64 n.a) ∧ w'.cell? ⟨q, 2, none⟩ = some (.int .i64 n.b) ∧ w'.cell? ⟨q, 3, none⟩ = some (.int .i64 n.c))
                    (first | exact ⟨f1, f2, f3⟩ | exact ⟨t1, t2, t3⟩ | go_keep)
                    ((first
                      | (go_at_call 123; refine (HTk.out).mono ?_; rintro e' V3 ⟨rfl, hb3⟩; have hb4 := bel (below_drew V2) hb3; obtain ⟨t0, t1, t2, t3, -, -, -, -, -⟩ := (HN2.out.below hb4).nine; have HB3 := hide (bel HB2.out hb4); have HC3 := hide (HC2.out.below hb4); have HO3 := hide (owns_kp HOA.out (Kp.of_below [] hb4) (by decide)); clear hb3 hb4)))
                  all_goals
                    go_wp2_with (at_builtin; refine list_in (A := A) rfl _ _ rfl rfl (HO3.out.alloc _) (by have := HB3.out.size; simp; omega) _ k rfl (HasC.new _ _ _) (by omega) ?_; intro g4 cap4 V4 hown hk4 hold; have HB4 := hide (hold W (bel HB3.out (bel1 _ _)) rfl); have HC4 := hide ((HC3.out.alloc _).kp hk4 (by decide)); have HO4 := hide hown; clear hown hk4 hold; have hx1 := HC4.out.cell 1 rfl)
                    go_roundw
                    case rel => exact ⟨k + 1, bd, A ++ [(k : Int)], by omega, by go_num, by go_num, by omega, by simp; omega, hide HS3.out, hide (by first | exact HO4.out | (have h4 := HO4.out; rw [hA0] at h4; exact h4)), hide HC4.out, hide HB4.out⟩
                    case measure => simp [intOf]; omega
    · have hkd : k = dl := by omega
      have HF : Hid (ordP BS NS = (bd == bl && L.length == 1)) := hide (by
        have h := HM.out
        rw [List.take_of_length_le (by rw [HLN.out]; omega)] at h
        unfold ordP
        rw [h, HLB.out])
      subst hkd
      obtain ⟨va, vc, rfl, HI⟩ := Iz.of_owns HO.out
      clear HI
      have hx1 := HC.out.cell 1 rfl
      by_cases h1 : bd = bl
      · subst h1
        by_cases h2 : L.length = 1
        · have HF2 := hide (show ordP BS NS = true by rw [HF.out, h2]; simp)
          go_wp2_with fail
          go_ret
          exact ⟨ret_bool HF2.out.symm, HB.out⟩
        · have HF2 := hide (show ordP BS NS = false by rw [HF.out, show (L.length == 1) = false by simpa using h2]; simp)
          have k2 : ((L.length : Int) == 1) = false := by simp; omega
          go_wp2_with fail
          go_ret
          exact ⟨ret_bool HF2.out.symm, HB.out⟩
      · have HF2 := hide (show ordP BS NS = false by rw [HF.out, show (bd == bl) = false by simpa using h1]; rfl)
        have k1 : ((bd : Int) == (bl : Int)) = false := by simp; omega
        go_wp2_with fail
        go_ret
        exact ⟨ret_bool HF2.out.symm, HB.out⟩

end Go.Proofs.YtlhbgkaknfhlnaaGreat
