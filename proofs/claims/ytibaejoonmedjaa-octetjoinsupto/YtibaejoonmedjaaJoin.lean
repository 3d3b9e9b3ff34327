/-
  The walk of octet.Join: what it returns owns, in new memory, the bytes of all parts one behind the other.
-/
import Derived.Test.YtibaejoonmedjaaSame
import Derived.Test.YtibaejoonmedjaaParts
namespace Go.Proofs.Ytibaejoonmedjaa
open Go.RowKit Oct
set_option linter.unusedVariables false

set_option maxHeartbeats 800000 in
theorem join_any (pa : Option Addr) (pn pc : Nat) (ps : List Part) (w : World) (hp : Parts w pa pn ps) (hmax : pn ≤ maxLen) (hsum : (joined ps).length ≤ 281474976710656) :
    Calls Try.prog 16 #[.slice pa pn pc] w fun e w' => e = .returned (.slice (some ⟨w.heap.size, 0, none⟩) (joined ps).length (joined ps).length) ∧
      w'.ownsRow w.heap.size 5 1 (.slice (some ⟨w.heap.size, 0, none⟩) (joined ps).length (joined ps).length) (joined ps).length (u8s (joined ps)) ∧ Below w.heap.size w w' := by
  obtain ⟨i0, hi, hz0, hz1, hz2⟩ := info_parts info5
  have hmx : pn ≤ 9223372036854775807 := by unfold maxLen at hmax; exact hmax
  have hlen := hp.len
  have HLEN : Hid (ps.length = pn) := hlen
  clear hlen hmax
  go_enter Try.func16, Try.ntmps16
  go_wp2_with fail
  go_loop [3, 11] (fun s i => ∃ k : Nat, k ≤ pn ∧ i = .int .i64 k ∧ s = .int .i64 ((joined (ps.take k)).length : Nat)) (fun _ i => pn - (intOf i).toNat)
  case atStart => exact ⟨0, Nat.zero_le _, rfl, rfl⟩
  case round =>
    obtain ⟨k, hk, rfl, rfl⟩ := hrel
    by_cases hlt : k < pn
    · obtain ⟨b, off, rfl, _, hc⟩ := hp.at (by omega)
      have hk' : k < ps.length := by rw [HLEN.out]; exact hlt
      have g := hc k hk'
      have hj := joined_succ hk'
      have hle := joined_le ps (k + 1)
      have hpart := hp.part _ (List.getElem_mem hk')
      generalize ps[k] = p at *
      have hpl := hpart.len
      have HJ : Hid ((joined (ps.take (k + 1))).length = (joined (ps.take k)).length + p.n) := by
        show _ = _
        rw [hj, List.length_append, hpl]
      have hle2 : (joined (ps.take k)).length + p.n ≤ 281474976710656 := by have := HJ.out; omega
      clear hj hle hpart hpl hc
      generalize et : (joined (ps.take k)).length = T at *
      clear et
      go_wp2_with fail
      go_round
      case rel => exact ⟨k + 1, by omega, by go_num, congrArg (Value.int .i64) (by rw [HJ.out]; simp)⟩
      case measure => simp [intOf]; omega
    · have ek : k = pn := by omega
      subst ek
      have et : ps.take k = ps := List.take_of_length_le (by rw [HLEN.out]; exact Nat.le_refl _)
      rw [et]
      clear et hlt hk
      generalize eS : (joined ps).length = S at hsum ⊢
      have ES : Hid ((joined ps).length = S) := eS
      clear eS
      go_wp2_with (at_make; refine wpList_make_own _ rfl _ _ 22 rfl w.heap.size 5 i0 (.int .u8 0) 1 Try.underlying22 hi hz0 hz1 .i64 .i64 (S : Int) S rfl rfl rfl (by rw [hz2]; omega) (by unfold maxLen; omega) (Nat.le_refl _) ?_; intro w1 hown hgrow)
      have hb : Below w.heap.size w w1 := (Below.refl _ _).grown hgrow (Nat.le_refl _) (fun k h => by cases h)
      clear hgrow
      go_loopw [6, 24] (fun v i wr => ∃ j : Nat, j ≤ k ∧ i = .int .i64 j ∧ v = .slice (some ⟨w.heap.size, 0, none⟩) (joined (ps.take j)).length S ∧
          wr.ownsRow w.heap.size 5 1 (.slice (some ⟨w.heap.size, 0, none⟩) (joined (ps.take j)).length S) (joined (ps.take j)).length (u8s (joined (ps.take j))) ∧ Below w.heap.size w wr)
        (fun _ i _ => k - (intOf i).toNat)
      case atStart => exact ⟨0, Nat.zero_le _, rfl, rfl, hown, hb⟩
      case round =>
        clear hb hown
        obtain ⟨j, hj, rfl, rfl, hownr, hbr⟩ := hrel
        by_cases hlt : j < k
        · obtain ⟨b, off, rfl, hblt, hc⟩ := hp.at (by omega)
          have hj' : j < ps.length := by rw [HLEN.out]; exact hlt
          have g : wr.cell? ⟨b, off + j, none⟩ = some ps[j].v := (hbr.cell (p := ⟨b, off + j, none⟩) hblt).trans (hc j hj')
          have hjs := joined_succ hj'
          have hle := joined_le ps (j + 1)
          have hpart := (hp.part _ (List.getElem_mem hj')).later hbr
          generalize ps[j] = p at *
          have hpl := hpart.len
          have HJ : Hid (joined (ps.take (j + 1)) = joined (ps.take j) ++ p.zs) := hjs
          have hle2 : (joined (ps.take j)).length + p.n ≤ S := by
            have h := ES.out
            have h2 := congrArg List.length hjs
            rw [List.length_append] at h2
            omega
          have hnone : p.a = none → p.n = 0 ∧ p.c = 0 := fun h => by have h1 := hpart.nil h; have h2 := hpart.le; omega
          have hnews := hpart.news
          have hnl : (u8s p.zs).length = p.n * 1 := by simp [hpl]
          have HB : Hid (Bytes wr p.a p.n p.c p.zs) := hpart
          clear hjs hle hpart hpl hc
          go_wp2_with (at_builtin; refine wpList_append_fits_any _ rfl _ _ 22 rfl w.heap.size 5 i0 1 Try.underlying22 hi hz1 w.heap.size (joined (ps.take j)).length S (u8s (joined (ps.take j))) rfl hownr p.a p.n p.c (u8s p.zs) rfl hnl hnone hnews (ints_oneCell _ _) hle2 ?_; intro w2 hown2 hgrow2)
          have hb2 : Below w.heap.size w w2 := hbr.grown hgrow2 hbr.size (fun k h => by cases h; exact Nat.le_refl _)
          have el : (joined (ps.take (j + 1))).length = (joined (ps.take j)).length + p.n := by rw [HJ.out, List.length_append, HB.out.len]
          have eu : u8s (joined (ps.take (j + 1))) = u8s (joined (ps.take j)) ++ u8s p.zs := by rw [HJ.out]; simp
          rw [← el, ← eu] at hown2
          go_roundw
          case rel => exact ⟨j + 1, by omega, by go_num, by rw [el], hown2, hb2⟩
          case measure => simp [intOf]; omega
        · have ej : j = k := by omega
          subst ej
          have et : ps.take j = ps := List.take_of_length_le (by rw [HLEN.out]; exact Nat.le_refl _)
          rw [et, ES.out] at hownr
          rw [et, ES.out]
          go_wp2_with fail
          go_ret
          rw [ES.out]
          exact ⟨rfl, hownr, hbr⟩

end Go.Proofs.Ytibaejoonmedjaa
