/-
  A choice that is bound and used alone: its tree, its code, plainly.
-/
import Derived.Test.YtngnnijpdjhelaaGreatZLoB
import Derived.Test.YtngnnijpdjhelaaGreatZCwA
namespace Go.Proofs.YtngnnijpdjhelaaGreat
open Go.RowKit Lx Pz
set_option linter.unusedVariables false

def wZZ : Txt := [122, 122]
def bdK : List Tk := .word wLet :: .word wZZ :: .eq :: ([.word wZ] ++ .semi :: [.word wZZ])
theorem bd_ak : ak [108, 101, 116, 32, 122, 122, 61, 122, 59, 122, 122] = some bdK := by
  have h1 : ∀ r, ak (108 :: 101 :: 116 :: 32 :: r) = (ak (32 :: r)).map ([.word wLet] ++ ·) := fun r => ak_wrd (x := wLet) (by decide) (32 :: r) (fo_cons (by decide) r)
  have h2 : ∀ r, ak (122 :: 122 :: 61 :: r) = (ak (61 :: r)).map ([.word wZZ] ++ ·) := fun r => ak_wrd (x := wZZ) (by decide) (61 :: r) (fo_cons (by decide) r)
  have h3 : ∀ r, ak (61 :: 122 :: r) = (ak (122 :: r)).map ([.eq] ++ ·) := fun r => ak_eq (122 :: r) (fun d hd => by simp at hd; subst hd; decide)
  have h4 : ∀ r, ak (122 :: 59 :: r) = (ak (59 :: r)).map ([.word wZ] ++ ·) := fun r => ak_wrd (x := wZ) (by decide) (59 :: r) (fo_cons (by decide) r)
  have h5 : ∀ r, ak (59 :: r) = (ak r).map ([.semi] ++ ·) := fun r => ak_semi r trivial
  have h8 : ak [122, 122] = (ak []).map ([.word wZZ] ++ ·) := ak_wrd (x := wZZ) (by decide) [] fo_nil
  rw [h1, ak_blank (by decide), h2, h3, h4, h5, h8, ak_nil]
  rfl
theorem gp_two {A : List Tk} {e : E} (hg : G [] 0 A e) : GP [] [] (.word wLet :: .word wZ :: .eq :: (A ++ .semi :: bdK)) ([wZ, wZZ], [e, .leaf (lf 4 0 0 0 0 0)], .leaf (lf 4 1 0 0 0 0)) :=
  GP.bind (by decide) rfl hg (GP.bind (by decide) (by decide) (G.ups (G.word (by decide) (by decide) (by decide) (by rfl)) (by decide) (by decide)) (GP.last (G.ups (G.word (by decide) (by decide) (by decide) (by rfl)) (by decide) (by decide))))
abbrev use1 : Nd := lf 4 1 0 0 0 0
theorem nodes_two (ex : E) : nodesOf [ex, .leaf use0] (.leaf use1) = (ex.flat 0 ++ [use0]) ++ [use1] := by simp [nodesOf, flL, E.flat]
theorem bd_two (ex : E) : bdL [ex, .leaf use0] 0 = [(ex.size : Int) - 1, (ex.size : Int)] := by simp [bdL, E.size]

/-- One use more at the end. -/
theorem use_more {f d : Int} {BS : List Int} {NS : List Nd} {n : Nd} {b : Nat} (h4 : n.op = 4) (hb : (BS.getD n.k.toNat 0).toNat = b) (hl : b < NS.length) :
    coR (NS ++ [n]) = coR NS ∧ mxR (dpR BS (NS ++ [n]) []) = mxR (dpR BS NS []) ∧ (spR f d BS (NS ++ [n]) []).2 = (spR f d BS NS []).2 ∧ (NS ++ [n]).any (ahB f d) = NS.any (ahB f d) ∧
    loF f d BS (NS ++ [n]) = ((loF f d BS NS).1 ++ [(loF f d BS NS).1.getD b 0], (loF f d BS NS).2) := by
  have h0 : coZ n.op = 0 := by rw [h4]; rfl
  refine ⟨by rw [coR_snoc, h0]; simp, ?_, ?_, any_app1 _ (by omega), ?_⟩
  · rw [dp_snoc, mxR_snoc]
    have hN : dpN BS (dpR BS NS []) n = (dpR BS NS []).getD b 0 := by unfold dpN; rw [if_pos h4, hb]
    rw [hN]
    have hlen : (dpR BS NS []).length = NS.length := by rw [dpR_len]; simp
    have := mxR_mem (getD_mem (D := dpR BS NS []) (i := b) (by omega))
    omega
  · obtain ⟨T, e, h⟩ : ∃ T e, spR f d BS NS [] = (T, e) := ⟨_, _, rfl⟩
    by_cases he : e = 0
    · subst he
      have hN : (spN f d BS T n).2 = 0 := by unfold spN; rw [if_pos h4]
      rw [spR_snoc h, if_pos hN, h]
    · rw [spR_bad h he, h]
  · rw [loF_snoc]
    unfold loS lrg
    rw [if_pos h4, hb]
theorem loF_free {f d : Int} (BS BS' : List Int) : ∀ (NS : List Nd) (s : List Int × List Cde.In), (∀ n ∈ NS, n.op ≠ 4) → NS.foldl (loS f d BS) s = NS.foldl (loS f d BS') s
  | [], s, h => rfl
  | n :: NS, s, h => by
    have e : loS f d BS s n = loS f d BS' s n := by unfold loS; rw [if_neg (h n (by simp)), if_neg (h n (by simp))]
    rw [List.foldl_cons, List.foldl_cons, e]
    exact loF_free BS BS' NS _ fun m hm => h m (by simp [hm])
theorem loF_len (f d : Int) (BS : List Int) : ∀ (NS : List Nd) (s : List Int × List Cde.In), (NS.foldl (loS f d BS) s).1.length = s.1.length + NS.length
  | [], s => rfl
  | n :: NS, s => by
    rw [List.foldl_cons, loF_len f d BS NS]
    unfold loS
    split <;> simp <;> omega
theorem cn_free : ∀ (NS : List Nd), (∀ n ∈ NS, n.op ≠ 4) → cn NS = NS.length := by
  intro NS h
  unfold cn
  rw [List.filter_eq_self.2 fun n hn => by simpa using h n hn]
/-- The code of a choice that is bound and used alone. -/
theorem binds_lo {f d : Int} {ex : E} {NM : List Txt} {root root' : Int} (h0 : chkP [] [] (ex.flat 0) root = true) (h1 : chkP NM [(ex.size : Int) - 1, (ex.size : Int)] ((ex.flat 0 ++ [use0]) ++ [use1]) root' = true) (hr : root = (ex.size : Int) - 1) (hr' : root' = (ex.size : Int) + 1) :
    loV f d NM [(ex.size : Int) - 1, (ex.size : Int)] ((ex.flat 0 ++ [use0]) ++ [use1]) root' = loV f d [] [] (ex.flat 0) root ∧ (ckE f d [] [] (ex.flat 0) root = 0 → (loV f d [] [] (ex.flat 0) root).I.length = (ex.flat 0).length) := by
  have hw := flat_wl h0
  have hf := no_use (i := 0) hw
  have hp := ex.size_pos
  have hl : (ex.flat 0).length = ex.size := E.flat_len ex 0
  have e1 : spR f d [(ex.size : Int) - 1, (ex.size : Int)] (ex.flat 0) [] = spR f d [] (ex.flat 0) [] := spR_free _ _ _ _ hf
  have e2 : dpR [(ex.size : Int) - 1, (ex.size : Int)] (ex.flat 0) [] = dpR [] (ex.flat 0) [] := dpR_free _ _ _ _ hf
  have e3 : loF f d [(ex.size : Int) - 1, (ex.size : Int)] (ex.flat 0) = loF f d [] (ex.flat 0) := loF_free _ _ _ _ hf
  obtain ⟨a1, a2, a3, a4, a5⟩ := use_more (f := f) (d := d) (BS := [(ex.size : Int) - 1, (ex.size : Int)]) (NS := ex.flat 0) (n := use0) (b := ex.size - 1) rfl (by show (((ex.size : Int) - 1)).toNat = _; omega) (by omega)
  obtain ⟨b1, b2, b3, b4, b5⟩ := use_more (f := f) (d := d) (BS := [(ex.size : Int) - 1, (ex.size : Int)]) (NS := ex.flat 0 ++ [use0]) (n := use1) (b := ex.size) rfl (by show ((ex.size : Int)).toNat = _; omega) (by rw [List.length_append, hl]; simp)
  have hk : ckE f d NM [(ex.size : Int) - 1, (ex.size : Int)] ((ex.flat 0 ++ [use0]) ++ [use1]) root' = ckE f d [] [] (ex.flat 0) root :=
    ck_eq h1 h0 (by rw [b4, a4]) (by rw [b3, a3, e1]) (by rw [b1, a1]) (by rw [b2, a2, e2])
  have hR : (loF f d [] (ex.flat 0)).1.length = ex.size := by
    have := loF_len f d [] (ex.flat 0) ([], [])
    rw [hl] at this
    simpa [loF] using this
  rw [a5, e3] at b5
  refine ⟨?_, fun h => ?_⟩
  · unfold loV
    rw [hk]
    split
    · rw [b5, hr, hr']
      congr 1
      dsimp only
      rw [show ((ex.size : Int) + 1).toNat = ((loF f d [] (ex.flat 0)).1 ++ [(loF f d [] (ex.flat 0)).1.getD (ex.size - 1) 0]).length by simp [hR], getI_last]
      rw [show ((loF f d [] (ex.flat 0)).1 ++ [(loF f d [] (ex.flat 0)).1.getD (ex.size - 1) 0]).getD ex.size 0 = (loF f d [] (ex.flat 0)).1.getD (ex.size - 1) 0 by
        have := getI_last (loF f d [] (ex.flat 0)).1 ((loF f d [] (ex.flat 0)).1.getD (ex.size - 1) 0) 0
        rwa [hR] at this]
      congr 1
      omega
    · rfl
  · unfold loV
    rw [if_pos h]
    show (loF f d [] (ex.flat 0)).2.length = _
    rw [(lw_all h).cnt, cn_free _ hf]

end Go.Proofs.YtngnnijpdjhelaaGreat
