import Derived.Test.YtimdcmponhcngaaGreatX21
namespace Go.Proofs.YtimdcmponhcngaaGreat.Spn
open Go.RowKit Go.IntWalk Go.Sort
set_option linter.unusedVariables false
set_option maxRecDepth 100000
set_option maxHeartbeats 16000000
theorem qof_core (op k s:Int)(a:Option Addr)(n cap:Nat)(L:List (Int × Int))(w:World)(h:Spans w a n cap L)
  (HP:smayB op k s L=true->∃ Z,finZ Z=finZ (reckZ op k s L)/\∀ W,Spans W a n cap L->Calls Tryz.prog 93 #[.int .i64 op,.int .i64 k,.int .i64 s,.slice a n cap] W fun r w'=>r=.returned (spV Z)/\Below W.heap.size W w') :
  Calls Tryz.prog 63 #[.int .i64 op,.int .i64 k,.int .i64 s,.slice a n cap] w fun r w'=>r=.returned (spV (ofZ op k s L))/\Below w.heap.size w w':=by
 have HR:=hide (HasC.new w 58 #[.int .i64 0,.int .i64 0])
 have HB:=hide (bel1 w (cs 0 0))
 have hl:=h.len
 have hm1:n<=9223372036854775807:=by have:=h.le;have:=h.max;unfold maxLen at this;omega
 by_cases h1:ar op < 1
 ·have hm:smayB op k s L=false:=by simp[smayB];omega
  rw[show ofZ op k s L=((0,0),1) by simp[ofZ,hm]]
  clear hl h HP hm
  obtain⟨s1,s2,s3,s4⟩:=facts2 HR.out
  go_enter Tryz.func63,Tryz.ntmps63
  go_wp2_with (first|(go_at_call 62;refine(rarity_any _ _).mono ?_;rintro e' w' ⟨rfl,rfl⟩)|(go_at_call 91;refine(rconstants_any _ _ _ _).mono ?_;rintro e' w' ⟨rfl,rfl⟩))
  exact bodyPost_ret (v:=.tuple #[.agg #[.int .i64 0,.int .i64 0],.int .i64 1]) (by simp[results,Tryz.results63,go_sem,s1,s2]) rfl ⟨rfl,HB.out⟩
 by_cases h2:(n:Int)=ar op
 ·have h2':((n:Int) != ar op)=false:=by simp[h2]
  cases hc:cons op k s
  ·have hm:smayB op k s L=false:=by simp[smayB,hc]
   rw[show ofZ op k s L=((0,0),1) by simp[ofZ,hm]]
   clear h2
   clear hl h HP hm
   obtain⟨s1,s2,s3,s4⟩:=facts2 HR.out
   go_enter Tryz.func63,Tryz.ntmps63
   go_wp2_with (first|(go_at_call 62;refine(rarity_any _ _).mono ?_;rintro e' w' ⟨rfl,rfl⟩)|(go_at_call 91;refine(rconstants_any _ _ _ _).mono ?_;rintro e' w' ⟨rfl,rfl⟩))
   exact bodyPost_ret (v:=.tuple #[.agg #[.int .i64 0,.int .i64 0],.int .i64 1]) (by simp[results,Tryz.results63,go_sem,s1,s2]) rfl ⟨rfl,HB.out⟩
  ·have HMay:Hid (smayB op k s L=L.all whP):=hide (by simp[smayB,hc,hl,h2];omega)
   have HL:=hide hl
   have H:=hide h
   have HPl:=hide HP
   clear hl h2 h HP
   go_enter Tryz.func63,Tryz.ntmps63
   go_wp2_with (first|(go_at_call 62;refine(rarity_any _ _).mono ?_;rintro e' w' ⟨rfl,rfl⟩)|(go_at_call 91;refine(rconstants_any _ _ _ _).mono ?_;rintro e' w' ⟨rfl,rfl⟩))
   have HR0:=hide HR.out
   have HB0:=hide HB.out
   go_loopw [10] (fun i wr=>∃ j:Nat,j<=n/\i=.int .i64 j/\(L.take j).all whP=true/\HasC wr w.heap.size 58 #[.int .i64 0,.int .i64 0]/\Below w.heap.size w wr) (fun i _=>n-(intOf i).toNat)
   case atStart=>exact⟨0,Nat.zero_le _,rfl,rfl,HR0.out,HB0.out⟩
   case round =>
    rename_i wr
    obtain⟨j,hj,rfl,hA,hR,hB⟩:=hrel
    have HA:=hide hA
    have HR:=hide hR
    have HB:=hide hB
    clear hA hB hR HR0 HB0
    by_cases hlt:j < n
    ·obtain⟨bb,off,rfl,hbb,hcell⟩:=(H.out.later HB.out).at (by omega)
     obtain⟨g1,g2⟩:=hcell j hlt
     clear hcell
     obtain⟨⟨x,y⟩,hxy⟩:∃ p,L.getD j (0,0)=p:=⟨_,rfl⟩
     rw[hxy] at g1 g2
     have HXY:=hide hxy
     clear hxy
     have hj0:(0:Int)<=(j:Int):=by omega
     have hj1:(j:Int) < (n:Int):=by omega
     have HWh:=fun w=>hide (rwhole_any x y w)
     cases hx:whB x y
     ·rw[hx] at HWh
      have hm:smayB op k s L=false:=by
       rw[HMay.out,List.all_eq_false]
       refine⟨(x,y),?_,by simp[whP,hx]⟩
       rw[<-HXY.out]
       simp[List.getD,HL.out,hlt]
      have HO:Hid (ofZ op k s L=((0,0),1)):=hide (by simp[ofZ,hm])
      clear hm
      go_wp2_with fail
      refine(HWh _).out.mono ?_
      rintro e w2 ⟨rfl,hb2⟩
      have hR2:=HR.out.below hb2
      have hB2:=bel HB.out hb2
      obtain⟨s1,s2,s3,s4⟩:=facts2 hR2
      clear hb2
      go_wp2_with fail
      obtain⟨d0,d1,hB4⟩:=stored2 hR2 hB2 (by omega) 0 0
      exact bodyPost_ret (v:=.tuple #[.agg #[.int .i64 0,.int .i64 0],.int .i64 1]) (by simp[results,Tryz.results63,go_sem,d0,d1]) rfl ⟨by rw[HO.out],hB4⟩
     ·rw[hx] at HWh
      go_wp2_with fail
      refine(HWh _).out.mono ?_
      rintro e w2 ⟨rfl,hb2⟩
      have HR2:=hide (HR.out.below hb2)
      have HB2:=hide (bel HB.out hb2)
      clear hb2
      go_wp2_with fail
      go_roundw
      case rel=>exact⟨j+1,by omega,by go_num,all_take_succ' (by rw[HL.out];exact hlt) HA.out HXY.out hx,HR2.out,HB2.out⟩
      case measure=>simp[intOf];omega
    ·have hA:=HA.out
     rw[List.take_of_length_le (by rw[HL.out];omega)] at hA
     have hm:smayB op k s L=true:=by rw[HMay.out];exact hA
     obtain⟨⟨⟨x,y⟩,e⟩,hZ,hP⟩:=HPl.out hm
     have HO0:ofZ op k s L=finZ ((x,y),e):=by rw[hZ];simp[ofZ,hm]
     have HPw:=hide (hP wr (H.out.later HB.out))
     clear hP hZ hm hA HPl HMay HL H
     by_cases he:e=0
     ·subst he
      have HWh:=fun w=>hide (rwhole_any x y w)
      cases hx:whB x y
      ·have HO:=hide (HO0.trans (show finZ ((x,y),0)=((0,0),13) by simp[finZ,hx]))
       clear HO0
       rw[hx] at HWh
       go_wp2_with fail
       refine HPw.out.mono ?_
       rintro e w3 ⟨rfl,hb3⟩
       have HR3:=hide (HR.out.below hb3)
       have HB3:=hide (bel HB.out hb3)
       clear hb3
       go_wp2_with fail
       refine(HWh _).out.mono ?_
       rintro e w4 ⟨rfl,hb4⟩
       have hR:=(HR3.out.alloc (cs x y)).below hb4
       have hB:=bel (bel HB3.out (bel1 _ _)) hb4
       obtain⟨s1,s2,s3,s4⟩:=facts2 hR
       clear hb4
       go_wp2_with fail
       obtain⟨d0,d1,hB4⟩:=stored2 hR hB (by omega) 0 0
       exact bodyPost_ret (v:=.tuple #[.agg #[.int .i64 0,.int .i64 0],.int .i64 13]) (by simp[results,Tryz.results63,go_sem,d0,d1]) rfl ⟨by rw[HO.out],hB4⟩
      ·have HO:=hide (HO0.trans (show finZ ((x,y),0)=((x,y),0) by simp[finZ,hx]))
       clear HO0
       rw[hx] at HWh
       go_wp2_with fail
       refine HPw.out.mono ?_
       rintro e w3 ⟨rfl,hb3⟩
       have HR3:=hide (HR.out.below hb3)
       have HB3:=hide (bel HB.out hb3)
       clear hb3
       go_wp2_with fail
       refine(HWh _).out.mono ?_
       rintro e w4 ⟨rfl,hb4⟩
       have hR:=(HR3.out.alloc (cs x y)).below hb4
       have hN:=(HasC.new w3 58 #[.int .i64 x,.int .i64 y]).below hb4
       have hB:=bel (bel HB3.out (bel1 _ _)) hb4
       obtain⟨s1,s2,s3,s4⟩:=facts2 hR
       obtain⟨n1,n2,-,-⟩:=facts2 hN
       clear hb4
       go_wp2_with fail
       obtain⟨d0,d1,hB4⟩:=stored2 hR hB (by omega) x y
       exact bodyPost_ret (v:=.tuple #[.agg #[.int .i64 x,.int .i64 y],.int .i64 0]) (by simp[results,Tryz.results63,go_sem,d0,d1]) rfl ⟨by rw[HO.out],hB4⟩
     ·have HO:=hide (HO0.trans (show finZ ((x,y),e)=((0,0),e) by simp[finZ,he]))
      clear HO0
      have he':(e != 0)=true:=by simp[he]
      clear he
      go_wp2_with fail
      refine HPw.out.mono ?_
      rintro e' w3 ⟨rfl,hb3⟩
      have hR:=(HR.out.below hb3).alloc (cs x y)
      have hB:=bel (bel HB.out hb3) (bel1 _ (cs x y))
      obtain⟨s1,s2,s3,s4⟩:=facts2 hR
      clear hb3
      go_wp2_with fail
      obtain⟨d0,d1,hB4⟩:=stored2 hR hB (by omega) 0 0
      exact bodyPost_ret (v:=.tuple #[.agg #[.int .i64 0,.int .i64 0],.int .i64 e]) (by simp[results,Tryz.results63,go_sem,d0,d1]) rfl ⟨by rw[HO.out],hB4⟩
 ·have h2':((n:Int) != ar op)=true:=by simp[h2]
  have hm:smayB op k s L=false:=by simp[smayB,hl,h2]
  rw[show ofZ op k s L=((0,0),1) by simp[ofZ,hm]]
  clear h2
  clear hl h HP hm
  obtain⟨s1,s2,s3,s4⟩:=facts2 HR.out
  go_enter Tryz.func63,Tryz.ntmps63
  go_wp2_with (first|(go_at_call 62;refine(rarity_any _ _).mono ?_;rintro e' w' ⟨rfl,rfl⟩)|(go_at_call 91;refine(rconstants_any _ _ _ _).mono ?_;rintro e' w' ⟨rfl,rfl⟩))
  exact bodyPost_ret (v:=.tuple #[.agg #[.int .i64 0,.int .i64 0],.int .i64 1]) (by simp[results,Tryz.results63,go_sem,s1,s2]) rfl ⟨rfl,HB.out⟩
theorem qof_any (op k s:Int)(a:Option Addr)(n cap:Nat)(L:List (Int × Int))(w:World)(h:Spans w a n cap L) :
  Calls Tryz.prog 63 #[.int .i64 op,.int .i64 k,.int .i64 s,.slice a n cap] w fun r w'=>r=.returned (spV (ofZ op k s L))/\Below w.heap.size w w' :=
 qof_core op k s a n cap L w h fun hm=>qplain_any op k s a n cap L hm
end Go.Proofs.YtimdcmponhcngaaGreat.Spn
