/-
  PackBytes' walk.
-/
import Derived.Test.YtphmamhchkolkaaMPbW
import Derived.Test.YtphmamhchkolkaaMD1
import Derived.Test.YtphmamhchkolkaaMOcApN
import Derived.Test.YtphmamhchkolkaaMCdS3
namespace Go.Proofs.Pck
open Ytphmamhchkolkaa
open Go.RowKit Go.IntWalk Ytphmamhchkolkaa.Knd
open Ytphmamhchkolkaa.Ocm (Part joined u8s)
open Cde (In i0 ia cd is6 i6 Ins agL arN okI okT okT_at mcB mc_parts ccE below_drew four_of mk7)
set_option linter.unusedVariables false

theorem roomy_ins {W : World} {base g n c : Nat} {L : List In} (hO : W.ownsRow base 51 6 (.slice (some ⟨g, 0, none⟩) (n + 1) c) (n + 1) (is6 (L ++ [mk7]))) : Ins W (some ⟨g, 0, none⟩) (n + 1) c (L ++ [mk7]) := by
  obtain ⟨a', c', e, hI, -⟩ := Ins.of_owns hO
  cases e
  exact hI
theorem ins_left {W : World} {a : Option Addr} {n c : Nat} {L : List In} (h : Ins W a (n + 1) c (L ++ [mk7])) : Ins W a n c L := by
  have hl := h.len
  simp at hl
  have h3 := h.take (k := n) (by omega)
  rw [← hl, List.take_left, hl] at h3
  exact h3
/-- The argument and what Roomy made of it, in a later world. -/
structure Xq (W V : World) (f d o : Int) (a : Option Addr) (n cap g c pd : Nat) (L : List In) : Prop where
  k : Pk W V f d o a n cap L
  ro : V.ownsRow W.heap.size 51 6 (.slice (some ⟨g, 0, none⟩) (n + 1) c) (n + 1) (is6 (L ++ [mk7]))
  db : HasC V pd 26 (cd f d (some ⟨g, 0, none⟩) n c o)
theorem Xq.later {W V V' : World} {f d o : Int} {a : Option Addr} {n cap g c pd : Nat} {L : List In} (h : Xq W V f d o a n cap g c pd L) (hb : Below V.heap.size V V') : Xq W V' f d o a n cap g c pd L := ⟨h.k.later hb, Cde.own_later h.ro hb, h.db.below hb⟩
theorem enR_byt (f d o : Int) (L : List In) : Byts (enR f d L o).2 ∧ (enR f d L o).2.length ≤ 4096 := by
  unfold enR
  split
  · rename_i h
    exact ⟨enC_byt h, (enC_len h).2⟩
  · exact ⟨Byts.nil, by simp⟩
/-- Two lists of bytes of the call's own. -/
theorem two_lists {V : World} {b1 b2 z c1 c2 : Nat} {x1 x2 : Option Addr} {Z : List Int} (h1 : V.ownsRow b1 5 1 (.slice x1 z c1) z (u8s Z)) (h2 : V.ownsRow b2 5 1 (.slice x2 z c2) z (u8s Z)) (hd : ∀ k, (Value.slice x1 z c1).ownBlock = some k → k < b2) (hz : z ≤ 4096) :
    Ocn.Lists (V.alloc (.cells #[.slice x1 z c1, .slice x2 z c2] 28)) V.heap.size 2 (fun i => if i = 0 then .slice x1 z c1 else .slice x2 z c2) (fun _ => z) := by
  have hn := HasC.new V 28 #[.slice x1 z c1, .slice x2 z c2]
  have o2 : ∀ k, (Value.slice x2 z c2).ownBlock = some k → b2 ≤ k := fun k hk => (h2.lt k hk).1
  refine ⟨hn.lt, fun i hi => ?_, fun i hi => ?_, fun i j hi hj hij k hk e => ?_, fun i hi => ?_, fun i hi => (show z ≤ _ by omega), by decide⟩
  · rcases (show i = 0 ∨ i = 1 by omega) with rfl | rfl
    · exact hn.cell 0 rfl
    · exact hn.cell 1 rfl
  · rcases (show i = 0 ∨ i = 1 by omega) with rfl | rfl
    · exact ⟨_, Cde.own_mono (h1.alloc _) (Nat.zero_le _)⟩
    · exact ⟨_, Cde.own_mono (h2.alloc _) (Nat.zero_le _)⟩
  · rcases (show i = 0 ∨ i = 1 by omega) with rfl | rfl <;> rcases (show j = 0 ∨ j = 1 by omega) with rfl | rfl
    · exact hij rfl
    · have := hd k hk; have := o2 k e; omega
    · have := hd k e; have := o2 k hk; omega
    · exact hij rfl
  · rcases (show i = 0 ∨ i = 1 by omega) with rfl | rfl
    · exact fun e => by have := (h1.lt _ e).2; omega
    · exact fun e => by have := (h2.lt _ e).2; omega

set_option maxRecDepth 100000 in
set_option maxHeartbeats 8000000 in
theorem pbytes_walk (f d o : Int) {a : Option Addr} {n cap : Nat} {L : List In} {W : World} (hL : Ins W a n cap L) (hs : n ≤ 2932031007317) :
    Calls Try.prog 3 #[.agg (cd f d a n cap o)] W fun e W' => e = .returned (.bool true) ∧ Below W.heap.size W W' := by
  have hb0 := bel1 W (.cells (cd f d a n cap o) 26)
  have HP0 : Hid (Pk W (W.alloc (.cells (cd f d a n cap o) 26)) f d o a n cap L) := hide ⟨HasC.new _ _ _, hL.later hb0, hb0⟩
  have HR := hide (Cde.roomyC_any f d o (hL.later hb0) (by omega))
  have HA := hide fun V => pawake_any V
  have HE := hide fun (V : World) (g c pd : Nat) (h : Xq W V f d o a n cap g c pd L) => encode_any f d o (ins_left (roomy_ins h.ro))
  have HJ := hide fun (V : World) (g c pd : Nat) (h : Xq W V f d o a n cap g c pd L) => rencode_any f d o h.k.i
  obtain ⟨hby, hzl⟩ := enR_byt f d o L
  obtain ⟨⟨er, Z⟩, hRR⟩ : ∃ R, enR f d L o = R := ⟨_, rfl⟩
  rw [hRR] at HE HJ hby hzl
  dsimp only at hby hzl
  unfold EnP at HE HJ
  dsimp only at HE HJ
  obtain ⟨z, hz⟩ : ∃ z, Z.length = z := ⟨_, rfl⟩
  have HBs := hide fun (V : World) (lo : Nat) (x : Option Addr) (c : Nat) (h : V.ownsRow lo 5 1 (.slice x z c) z (u8s Z)) => (show Ocm.Bytes V x z c Z from by
    obtain ⟨a', c', e, hB, -⟩ := byt_own h hby
    cases e
    exact hB)
  rw [hz] at HE HJ hzl
  clear hL hb0 hRR hby hz
  go_enter Try.func3, Try.ntmps3
  go_wp2_with fail
  refine HR.out.mono ?_
  clear HR
  rintro e V ⟨g, c, rfl, hO, hb⟩
  have hba := bel1 V (.cells (cd f d (some ⟨g, 0, none⟩) n c o) 26)
  have HC : Hid (Xq W (V.alloc (.cells (cd f d (some ⟨g, 0, none⟩) n c o) 26)) f d o a n cap g c V.heap.size L) := hide ⟨HP0.out.later (bel hb hba), Cde.own_mono (Cde.own_later hO hba) HP0.out.lo.size, HasC.new _ _ _⟩
  clear hO hb hba HP0
  go_wp2_with fail
  obtain ⟨pd, hpd⟩ : ∃ p, V.heap.size = p := ⟨_, rfl⟩
  obtain ⟨V1, hV1⟩ : ∃ X, V.alloc (.cells (cd f d (some ⟨g, 0, none⟩) n c o) 26) = X := ⟨_, rfl⟩
  rw [hV1] at HC ⊢
  rw [hpd] at HC ⊢
  clear hV1 hpd
  refine (HE.out V1 _ _ _ HC.out).mono ?_
  rintro e V2 ⟨x1, c1, rfl, hO1, hb⟩
  have HC2 := hide (HC.out.later hb)
  have HO1 := hide hO1
  have HZ1 := hide (show W.heap.size ≤ V1.heap.size from HC.out.k.lo.size)
  obtain ⟨t0, t1, t2, t3⟩ := four_of HC2.out.k.b
  clear hO1 hb HC
  go_wp2_with fail
  refine (HJ.out V2 _ _ _ HC2.out).mono ?_
  rintro e V3 ⟨x2, c2, rfl, hO2, hb⟩
  have HC3 := hide (HC2.out.later hb)
  have HO1 := hide (Cde.own_later HO1.out hb)
  have HO2 := hide hO2
  have HD3 := hide (show ∀ k, (Value.slice x1 z c1).ownBlock = some k → k < V3.heap.size from fun k hk => (HO1.out.lt k hk).2)
  obtain ⟨s0, s1, s2, s3⟩ := four_of HC3.out.db
  clear hO2 hb HC2 t0 t1 t2 t3
  go_wp2_with fail
  refine (HE.out V3 _ _ _ HC3.out).mono ?_
  rintro e V4 ⟨x3, c3, rfl, hO3, hb⟩
  have HC4 := hide (HC3.out.later hb)
  have HO1 := hide (Cde.own_later HO1.out hb)
  have HO2 := hide (Cde.own_later HO2.out hb)
  have HO3 := hide hO3
  have HZ3 := hide (show W.heap.size ≤ V3.heap.size from HC3.out.k.lo.size)
  clear hO3 hb HC3 s0 s1 s2 s3 HE HJ
  go_wp2_with fail
  refine (HA.out _).mono ?_
  rintro e V5 ⟨rfl, hb⟩
  have HC5 := hide (HC4.out.later hb)
  have HO1 := hide (Cde.own_later HO1.out hb)
  have HO2 := hide (Cde.own_later HO2.out hb)
  have HO3 := hide (Cde.own_later HO3.out hb)
  have hee : (er == er) = true := by simp
  have HS := hide (bsame_self (HBs.out _ _ _ _ HO1.out) (HBs.out _ _ _ _ HO2.out))
  clear hb HC4 HA
  go_wp2_with fail
  refine HS.out.mono ?_
  rintro e V6 ⟨rfl, hb⟩
  have HC6 := hide (HC5.out.later hb)
  have HO1 := hide (Cde.own_later HO1.out hb)
  have HO2 := hide (Cde.own_later HO2.out hb)
  have HO3 := hide (Cde.own_later HO3.out hb)
  have HS := hide (bsame_self (HBs.out _ _ _ _ HO3.out) (HBs.out _ _ _ _ HO2.out))
  clear hb HC5
  go_wp2_with fail
  refine HS.out.mono ?_
  rintro e V7 ⟨rfl, hb⟩
  have HC7 := hide (HC6.out.later hb)
  have HO1 := hide (Cde.own_later HO1.out hb)
  have HO3 := hide (Cde.own_later HO3.out hb)
  have HH := hide (Cde.heldC_any f d o (roomy_ins HC7.out.ro) HC7.out.k.i)
  obtain ⟨t0, t1, t2, t3⟩ := four_of HC7.out.k.b
  obtain ⟨s0, s1, s2, s3⟩ := four_of HC7.out.db
  clear hb HC6 HS HO2
  go_wp2_with fail
  refine HH.out.mono ?_
  rintro e V8 ⟨rfl, hb⟩
  have HO1 := hide (Cde.own_later HO1.out hb)
  have HO3 := hide (Cde.own_later HO3.out hb)
  have HB8 := hide (bel HC7.out.k.lo hb)
  have HLs := hide (two_lists HO1.out HO3.out HD3.out hzl)
  have HOf : Hid (∀ k, Ocn.Of 2 (fun i => if i = 0 then .slice x1 z c1 else .slice x3 z c3) k → W.heap.size ≤ k) := hide fun k ⟨i, hi, hk⟩ => by
    rcases (show i = 0 ∨ i = 1 by omega) with rfl | rfl
    · have := (HO1.out.lt k hk).1; have := HZ1.out; omega
    · have := (HO3.out.lt k hk).1; have := HZ3.out; omega
  have HAp := hide (Ocn.apart_any _ 2 2 _ _ _ HLs.out)
  clear hb HC7 HH t0 t1 t2 t3 s0 s1 s2 s3
  go_wp2_with fail
  refine HAp.out.mono ?_
  rintro e V9 ⟨rfl, hk⟩
  have HB9 : Hid (Below W.heap.size W V9) := hide ((bel HB8.out (bel1 _ _)).trans (hk.below (by have := HB8.out.size; simp only [World.size_alloc]; omega) HOf.out))
  clear hk
  go_wp2_with fail
  go_ret
  exact ⟨rfl, HB9.out⟩

end Go.Proofs.Pck
