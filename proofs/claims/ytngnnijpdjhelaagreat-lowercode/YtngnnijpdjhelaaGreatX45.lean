import Derived.Test.YtngnnijpdjhelaaGreatX43
import Derived.Test.YtngnnijpdjhelaaGreatX44
namespace Go.Proofs.YtngnnijpdjhelaaGreat
open Go.RowKit Go.IntWalk Lx Pz
set_option linter.unusedVariables false
set_option maxRecDepth 100000
set_option maxHeartbeats 16000000
theorem ix_first {L:List Txt}{k:Nat}(hk:k < L.length):(ixZ L L[k]==(k:Int))=!(L.take k).contains L[k]:=by
 have hm:L.contains L[k]=true:=by simp
 have hz:ixZ L L[k]=(pos L L[k]:Int):=by unfold ixZ;rw[if_pos hm]
 rw[hz,Bool.eq_iff_iff]
 simp only[beq_iff_eq,Bool.not_eq_true',Int.natCast_inj]
 unfold pos
 rw[List.findIdx_eq hk]
 constructor
 ·rintro⟨-,h⟩
  rw[<-Bool.not_eq_true,List.contains_iff_mem]
  intro hc
  obtain⟨j,hj,he⟩:=List.mem_iff_getElem.1 hc
  rw[List.length_take] at hj
  have:=h j (by omega)
  rw[List.getElem_take] at he
  simp[he] at this
 ·intro h
  refine⟨by simp,fun j hj=>?_⟩
  rw[<-Bool.not_eq_true,List.contains_iff_mem] at h
  simp only[beq_eq_false_iff_ne]
  intro e
  exact h (List.mem_iff_getElem.2 ⟨j,by rw[List.length_take];omega,by rw[List.getElem_take];exact e⟩)
theorem mixed':Tryz.prog.follows .mixedOrders=true:=by kernel_rfl
theorem to_below {P:Program}{f:FuncId}{args:Array Value}{V:World}{v:Value}(h:Calls P f args V fun e w'=>e=.returned v/\w'=V):Calls P f args V fun e w'=>e=.returned v/\Below V.heap.size V w' :=
 h.mono fun _ _ ⟨he,hw⟩=>⟨he,hw ▸ Below.refl _ _⟩
structure Sdt (W V:World)(q:Nat)(cs:Array Value):Prop where
 old:Below W.heap.size W V
 box:HasC V q 28 cs
theorem Sdt.later {W V V':World}{q:Nat}{cs:Array Value}(h:Sdt W V q cs)(hb:Below V.heap.size V V'):Sdt W V' q cs:=⟨bel h.old hb,h.box.below hb⟩
theorem sound_any {W:World}{na ba da:Option Addr}{nl nc bl bc dl dc:Nat}{root:Int}{NM:List Txt}{BS:List Int}{NS:List Nd}(hX:Tx W na nl nc NM)(hB:Iz W ba bl bc BS)(hN:Nz W da dl dc NS)(hs:∀ s ∈ NM,s.length<=9223372036854775807) :
  Calls Tryz.prog 55 #[.agg (tr4 (.slice na nl nc) (.slice ba bl bc) (.slice da dl dc) (.int .i64 root))] W fun e W'=>e=.returned (.bool (sndP NM BS NS root))/\Below W.heap.size W W':=by
 have hdl:dl<=9223372036854775807:=by have:=hN.le;have:=hN.max;unfold maxLen at *;omega
 have hnl:nl<=9223372036854775807:=by have:=hX.le;have:=hX.max;unfold maxLen at *;omega
 have hbl:bl<=9223372036854775807:=by have:=hB.le;have:=hB.max;unfold maxLen at *;omega
 have HX:=hide hX
 have HBI:=hide hB
 have HNI:=hide hN
 have HLX:=hide hX.len
 have HLB:=hide hB.len
 have HLN:=hide hN.len
 have HSz:=hide hs
 have HST:Hid (Sdt W (W.alloc (.cells (tr4 (.slice na nl nc) (.slice ba bl bc) (.slice da dl dc) (.int .i64 root)) 28)) W.heap.size (tr4 (.slice na nl nc) (.slice ba bl bc) (.slice da dl dc) (.int .i64 root))):=hide ⟨bel1 _ _,HasC.new W _ _⟩
 have HSN:Hid (sndP NM BS NS root=(nl==bl&&(decide (dl<=1024)&&(root==(dl:Int)-1&&(nmB NM&&(slp NS (BS++[root]) 0 0==some dl)))))):=hide (by unfold sndP;rw[hX.len,hB.len,hN.len])
 clear hX hB hN hs
 by_cases h1:nl=bl
 case neg =>
  have k1:((nl:Int) != (bl:Int))=true:=by simp;omega
  rw[HSN.out,show (nl==bl)=false by simpa using h1,Bool.false_and]
  go_enter Tryz.func55,Tryz.ntmps55
  go_wp2_with fail
  go_ret
  exact⟨rfl,HST.out.old⟩
 subst h1
 by_cases h2:dl<=1024
 case neg =>
  have k1:¬(dl:Int)<=1024:=by omega
  rw[HSN.out,show decide (dl<=1024)=false by simpa using h2,Bool.false_and,Bool.and_false]
  go_enter Tryz.func55,Tryz.ntmps55
  go_wp2_with fail
  go_ret
  exact⟨rfl,HST.out.old⟩
 have k2:(dl:Int)<=1024:=by omega
 by_cases h3:root=(dl:Int)-1
 case neg =>
  have k3:(root != (dl:Int)-1)=true:=by simpa using h3
  rw[HSN.out,show (root==(dl:Int)-1)=false by simpa using h3,Bool.false_and,Bool.and_false,Bool.and_false]
  go_enter Tryz.func55,Tryz.ntmps55
  go_wp2_with fail
  go_ret
  exact⟨rfl,HST.out.old⟩
 subst h3
 have HSN2:Hid (sndP NM BS NS ((dl:Int)-1)=(nmB NM&&(slp NS (BS++[(dl:Int)-1]) 0 0==some dl))):=hide (by rw[HSN.out,show decide (dl<=1024)=true by simpa using h2];simp)
 clear HSN
 go_enter Tryz.func55,Tryz.ntmps55
 go_wp2_with fail
 generalize decide ((1024:Int) < (dl:Int))=dd1
 go_loopw [3] (fun i wr=>∃ k:Nat,k<=nl/\i=.int .i64 k/\Hid (nmB (NM.take k)=true)/\Hid (Sdt W wr W.heap.size (tr4 (.slice na nl nc) (.slice ba nl bc) (.slice da dl dc) (.int .i64 ((dl:Int)-1))))) (fun i _=>nl-(intOf i).toNat)
 case atStart=>exact⟨0,Nat.zero_le _,rfl,hide rfl,hide HST.out⟩
 case round =>
  obtain⟨k,hk,rfl,HNB,HV⟩:=hrel
  rename World=>V
  obtain⟨c0,c1,c2,c3⟩:=facts4 HV.out.box
  by_cases hlt:k < nl
  ·have HXV:=hide (HX.out.later HV.out.old)
   have hkl:k < NM.length:=by rw[HLX.out];exact hlt
   obtain⟨b,off,rfl,hc0⟩:∃ b off,na=some ⟨b,off,none⟩/\V.cell? ⟨b,off+k,none⟩=some (.string (sB NM[k])):=by
    rcases HXV.out.cell with h0|⟨b,off,ha,hc⟩
    ·omega
    ·have:=hc k hlt
     rw[List.getD_eq_getElem?_getD,List.getElem?_eq_getElem hkl] at this
     exact⟨b,off,ha,this⟩
   have hi0:(0:Int)<=k:=by omega
   have hi1:(k:Int) < nl:=by omega
   have HSN:=hide (show nmB (NM.take (k+1))=(nmB (NM.take k)&&(wrd NM[k]&&!resv NM[k]&&!(NM.take k).contains NM[k])) by rw[List.take_succ_eq_append_getElem hkl,nmB_snoc])
   rw[HNB.out,Bool.true_and] at HSN
   have hsz:=HSz.out NM[k] (List.getElem_mem hkl)
   have HIX:=hide (ix_first hkl)
   have HWd:=hide fun V=>to_below (rword_any (sB NM[k]) V (by rw[sB_size];unfold maxLen;omega))
   have HRs:=hide fun V=>qreserved_any (sB NM[k]) V
   have HPl:=hide fun d os=>to_below (qplace_any (HXV.out.later (below_regrown V d os)) (sB NM[k]))
   rw[bs_sB] at HWd HRs HPl
   generalize NM[k]=s at *
   clear hkl
   have HFail:Hid (nmB (NM.take (k+1))=false->sndP NM BS NS ((dl:Int)-1)=false):=hide (fun h=>by rw[HSN2.out,nmB_pre h];rfl)
   go_upto_region 6 with fail
   have k0:=cell_regrown c0
   have k1:=cell_regrown hc0
   rw[<-HIX.out] at HSN
   generalize ixZ NM s=z at *
   cases hw:wrd s with
   | false =>
    rw[hw] at HWd HSN
    have HE:=hide (HFail.out HSN.out)
    clear hw HIX
    generalize sB s=u at *
    refine wp_region_quiet_below mixed' (by kernel_rfl) ?_
    repeat (first|go_big_quiet_step (first
     | (go_at_call 76;exact Calls.regrown_of (HWd.out _)) | (go_at_call 77;exact Calls.regrown_of (HRs.out _)) | (go_at_call 78;exact Calls.regrown_of (HPl.out _ _))))
    refine wpQuiet_nil ?_
    intro V4 hw'
    obtain⟨⟨dq,osq⟩,hw''⟩:=hw'
    have hb4:Below V.heap.size V (Go.Sort.grow (redrawn V dq) osq):=below_regrown _ _ _
    simp only at hw''
    rw[<-hw''] at hb4
    clear hw'' k0 k1
    go_wp2_with fail
    go_ret
    exact⟨ret_bool HE.out.symm,bel HV.out.old hb4⟩
   | true =>
    rw[hw] at HWd HSN
    clear hw
    cases hr:resv s with
    | true =>
     rw[hr] at HRs HSN
     have HE:=hide (HFail.out HSN.out)
     clear hr HIX
     generalize sB s=u at *
     refine wp_region_quiet_below mixed' (by kernel_rfl) ?_
     repeat (first|go_big_quiet_step (first
      | (go_at_call 76;exact Calls.regrown_of (HWd.out _)) | (go_at_call 77;exact Calls.regrown_of (HRs.out _)) | (go_at_call 78;exact Calls.regrown_of (HPl.out _ _))))
     refine wpQuiet_nil ?_
     intro V4 hw'
     obtain⟨⟨dq,osq⟩,hw''⟩:=hw'
     have hb4:Below V.heap.size V (Go.Sort.grow (redrawn V dq) osq):=below_regrown _ _ _
     simp only at hw''
     rw[<-hw''] at hb4
     clear hw'' k0 k1
     go_wp2_with fail
     go_ret
     exact⟨ret_bool HE.out.symm,bel HV.out.old hb4⟩
    | false =>
     rw[hr] at HRs HSN
     clear hr
     generalize sB s=u at *
     by_cases hzk:z=k
     ·have hzn:(z != (k:Int))=false:=by simpa using hzk
      have HE:Hid (nmB (NM.take (k+1))=true):=hide (by rw[HSN.out];simpa using hzk)
      clear HIX HSN HFail
      subst hzk
      refine wp_region_quiet_below mixed' (by kernel_rfl) ?_
      repeat (first|go_big_quiet_step (first
       | (go_at_call 76;exact Calls.regrown_of (HWd.out _)) | (go_at_call 77;exact Calls.regrown_of (HRs.out _)) | (go_at_call 78;exact Calls.regrown_of (HPl.out _ _))))
      refine wpQuiet_nil ?_
      intro V4 hw'
      obtain⟨⟨dq,osq⟩,hw''⟩:=hw'
      have hb4:Below V.heap.size V (Go.Sort.grow (redrawn V dq) osq):=below_regrown _ _ _
      simp only at hw''
      rw[<-hw''] at hb4
      clear hw'' k0 k1
      have HV4:=hide (HV.out.later hb4)
      clear hb4
      go_wp2_with fail
      go_roundw
      case rel=>exact⟨k+1,by omega,by go_num,hide HE.out,hide HV4.out⟩
      case measure=>simp[intOf];omega
     ·have hzn:(z != (k:Int))=true:=by simpa using hzk
      have HE:=hide (HFail.out (by rw[HSN.out];simpa using hzk))
      clear HIX HSN HFail hzk
      refine wp_region_quiet_below mixed' (by kernel_rfl) ?_
      repeat (first|go_big_quiet_step (first
       | (go_at_call 76;exact Calls.regrown_of (HWd.out _)) | (go_at_call 77;exact Calls.regrown_of (HRs.out _)) | (go_at_call 78;exact Calls.regrown_of (HPl.out _ _))))
      refine wpQuiet_nil ?_
      intro V4 hw'
      obtain⟨⟨dq,osq⟩,hw''⟩:=hw'
      have hb4:Below V.heap.size V (Go.Sort.grow (redrawn V dq) osq):=below_regrown _ _ _
      simp only at hw''
      rw[<-hw''] at hb4
      clear hw'' k0 k1
      go_wp2_with fail
      go_ret
      exact⟨ret_bool HE.out.symm,bel HV.out.old hb4⟩
  ·have hkn:k=nl:=by omega
   have HMN:Hid (nmB NM=true):=hide (by have:=HNB.out;rwa[List.take_of_length_le (by rw[HLX.out];omega)] at this)
   obtain⟨RS,hRS⟩:∃ RS,RS=BS++[(dl:Int)-1]:=⟨_,rfl⟩
   have HRS:=hide hRS
   have HRL:Hid (RS.length=nl+1):=hide (by rw[hRS,List.length_append,HLB.out];rfl)
   have HSF:Hid (sndP NM BS NS ((dl:Int)-1)=(slp NS RS 0 0==some dl)):=hide (by rw[HSN2.out,HMN.out,Bool.true_and,hRS])
   have heq:∀(w:World) (a:Option Addr) (n c:Nat),(binOp .eql 25 (.slice a n c) (.slice none 0 0)).run Tryz.prog w=.ok (.bool a.isNone) w:=fun w a n c=>Lib.run_eql_slice_nil w 25 3 a n c 0 0 Tryz.underlying25
   subst hkn
   clear hRS HSN2 HNB HMN HX HSz HST
   go_wp2_with fail
   go_loopw [4,5] (fun f i wr=>∃(j s:Nat),j<=k+1/\i=.int .i64 j/\f=.int .i64 s/\Hid (slp NS (RS.take j) 0 0=some s)/\Hid (Sdt W wr W.heap.size (tr4 (.slice na k nc) (.slice ba k bc) (.slice da dl dc) (.int .i64 ((dl:Int)-1))))) (fun _ i _=>k+1-(intOf i).toNat)
   case atStart=>exact⟨0,0,Nat.zero_le _,rfl,rfl,hide rfl,hide HV.out⟩
   case round =>
    obtain⟨j,s,hj,rfl,rfl,HSL,HV2⟩:=hrel
    rename World=>V2
    clear c0 c1 c2 c3
    obtain⟨c0,c1,c2,c3⟩:=facts4 HV2.out.box
    have hs1:=slp_le (by rw[HLN.out];exact h2) HSL.out
    rw[HLN.out] at hs1
    have hjs:=slp_cnt (by rw[HLN.out];exact h2) HSL.out
    rw[List.length_take,HRL.out,Nat.min_eq_left hj] at hjs
    have HJ4:Hid (j<=1024):=hide (by omega)
    clear hjs
    by_cases hjlt:j < k+1
    ·have HSU:=hide (slp_succ (by rw[HRL.out];exact hjlt) HSL.out)
     have HFail:Hid (sl1 NS j s (RS.getD j 0)=none->sndP NM BS NS ((dl:Int)-1)=false):=hide (fun h=>by
      have h0:=HSU.out
      rw[h] at h0
      rw[HSF.out,slp_pre h0]
      rfl)
     have HNV:=hide (HNI.out.later HV2.out.old)
     have HWk:=hide (walk_any h2 ((RS.getD j 0).toNat+1) (RS.getD j 0) 1024 V2 HNV.out (by omega) (by omega) (by omega))
     have hroot:(j < k/\∃ b off,ba=some ⟨b,off,none⟩/\V2.cell? ⟨b,off+j,none⟩=some (.int .i64 (RS.getD j 0)))\/(j=k/\RS.getD j 0=(dl:Int)-1):=by
      by_cases hjk:j < k
      ·left
       refine⟨hjk,?_⟩
       rcases(HBI.out.later HV2.out.old).cell with h0|⟨b,off,ha,-,hc⟩
       ·omega
       ·refine⟨b,off,ha,?_⟩
        rw[hc j hjk,HRS.out,List.getD_eq_getElem?_getD,List.getD_eq_getElem?_getD,List.getElem?_append_left (by rw[HLB.out];exact hjk)]
      ·right
       obtain rfl:j=k:=by omega
       refine⟨rfl,?_⟩
       rw[HRS.out,List.getD_eq_getElem?_getD,List.getElem?_append_right (by rw[HLB.out];omega),HLB.out,Nat.sub_self]
       rfl
     generalize RS.getD j 0=r at *
     rcases hroot with⟨hjk,b,off,rfl,hcb⟩|⟨hjk,hr⟩
     ·have hq0:(0:Int)<=j:=by omega
      have hq1:(j:Int) < k:=by omega
      have hq2:(j:Int)<=k:=by omega
      go_wp2_with fail
      refine(HWk.out).mono ?_
      rintro e V3 (⟨hw,rfl,hb3⟩|⟨l,g,c,hw,rfl,ho3,hb3⟩)
      ·have HE:=hide (HFail.out (sl1_no hw))
       have HV3:=hide (HV2.out.later hb3)
       clear hb3 hw
       go_wp2_with fail
       go_ret
       exact⟨ret_bool HE.out.symm,HV3.out.old⟩
      ·obtain⟨hl0,hl1⟩:=wk_len hw
       have HV3:=hide (HV2.out.later hb3)
       have HO3:=hide ho3
       have HWW:=hide hw
       have HMM:=hide (wk_mem _ _ _ l hw)
       have hz0:V3.cell? ⟨g,0,none⟩=some (.int .i64 (l.getD 0 0)):=by
        obtain⟨a',c',e',hi'⟩:=Iz.of_owns ho3
        cases e'
        rcases hi'.cell with h0|⟨b',off',ha',-,hc'⟩
        ·omega
        ·cases ha'
         exact hc' 0 hl0
       have hlc:l.length<=c:=by
        obtain⟨a',c',e',hi'⟩:=Iz.of_owns ho3
        cases e'
        exact hi'.le
       clear hb3 hw ho3
       by_cases hl00:l.getD 0 0=s
       ·rw[hl00] at hz0
        go_wp2_with fail
        go_loopw [8] (fun i wr=>∃ m:Nat,m<=l.length/\i=.int .i64 m/\Hid (∀ t,t < m->l.getD t 0=(s:Int)+t/\ownP (NS.getD (l.getD t 0).toNat n0) j=true)/\Hid (wr.ownsRow V2.heap.size 3 1 (.slice (some ⟨g,0,none⟩) l.length c) l.length (in64 l))/\Hid (Sdt W wr W.heap.size (tr4 (.slice na k nc) (.slice (some ⟨b,off,none⟩) k bc) (.slice da dl dc) (.int .i64 ((dl:Int)-1))))) (fun i _=>l.length-(intOf i).toNat)
        case atStart=>exact⟨0,Nat.zero_le _,rfl,hide (by intro t ht;omega),hide HO3.out,hide HV3.out⟩
        case round =>
         obtain⟨m,hm,rfl,HAll,HO4,HV4⟩:=hrel
         rename World=>V4
         clear c0 c1 c2 c3 hz0
         obtain⟨c0,c1,c2,c3⟩:=facts4 HV4.out.box
         by_cases hml:m < l.length
         ·have hzm:V4.cell? ⟨g,m,none⟩=some (.int .i64 (l.getD m 0)):=by
           obtain⟨a',c',e',hi'⟩:=Iz.of_owns HO4.out
           cases e'
           rcases hi'.cell with h0|⟨b',off',ha',-,hc'⟩
           ·omega
           ·cases ha'
            have:=hc' m hml
            rwa[Nat.zero_add] at this
          have hi0:(0:Int)<=m:=by omega
          have hi1:(m:Int) < l.length:=by omega
          by_cases hzs:l.getD m 0=((s+m:Nat):Int)
          ·have hmem:=HMM.out (l.getD m 0) (by rw[List.getD_eq_getElem?_getD,List.getElem?_eq_getElem hml];exact List.getElem_mem hml)
           rw[HLN.out,hzs] at hmem
           have hsm:s+m < dl:=by omega
           obtain⟨g2,off2,rfl,hat⟩:=(HNI.out.later HV4.out.old).at (by omega)
           obtain⟨e0,e1,e2,e3,e4,e5,e6,e7,e8⟩:=hat (s+m) hsm
           clear hat
           rw[show l.getD m 0=(s:Int)+(m:Int) by omega] at hzm
           have hsm0:(0:Int)<=(s:Int)+(m:Int):=by omega
           have hsm1:(s:Int)+(m:Int) < dl:=by omega
           have HOw:=hide fun V=>own_any (NS.getD (s+m) n0) j V
           have HNx:Hid (NS.getD (l.getD m 0).toNat n0=NS.getD (s+m) n0):=hide (by rw[hzs,Int.toNat_natCast])
           have htn:((s:Int)+(m:Int)).toNat=s+m:=by omega
           have HZS:=hide hzs
           clear hzs hmem
           generalize NS.getD (s+m) n0=x at *
           go_upto_region 21 with fail
           have k0:=cell_regrown c2
           have k1:=cell_regrown hzm
           have p0:=cell_regrown e0
           have p1:=cell_regrown e1
           have p2:=cell_regrown e2
           have p3:=cell_regrown e3
           have p4:=cell_regrown e4
           have p5:=cell_regrown e5
           have p6:=cell_regrown e6
           have p7:=cell_regrown e7
           have p8:=cell_regrown e8
           cases how:ownP x j with
           | true =>
            rw[how] at HOw
            have HAll2:Hid (∀ t,t < m+1->l.getD t 0=(s:Int)+t/\ownP (NS.getD (l.getD t 0).toNat n0) j=true):=hide (by
             intro t ht
             by_cases htm:t < m
             ·exact HAll.out t htm
             ·obtain rfl:t=m:=by omega
              exact⟨by rw[HZS.out];omega,by rw[HNx.out];exact how⟩)
            clear how HAll
            refine wp_region_quiet_below mixed' (by kernel_rfl) ?_
            repeat (first|go_big_quiet_step (first
             | (go_at_call 80;exact Calls.regrown_of (HOw.out _))))
            refine wpQuiet_nil ?_
            intro V5 hw'
            obtain⟨⟨dq,osq⟩,hw''⟩:=hw'
            have hb4:Below V4.heap.size V4 (Go.Sort.grow (redrawn V4 dq) osq):=below_regrown _ _ _
            simp only at hw''
            rw[<-hw''] at hb4
            clear hw'' k0 k1 p0 p1 p2 p3 p4 p5 p6 p7 p8
            have HV5:=hide (HV4.out.later hb4)
            have HO5:=hide (owns_kp HO4.out (Kp.of_below [] hb4) (by decide))
            clear hb4
            go_wp2_with fail
            go_roundw
            case rel=>exact⟨m+1,by omega,by go_num,hide HAll2.out,hide HO5.out,hide HV5.out⟩
            case measure=>simp[intOf];omega
           | false =>
            rw[how] at HOw
            have HE:=hide (HFail.out (sl1_bad HWW.out hml (fun h=>by rw[HNx.out,how] at h;cases h.2)))
            clear how
            refine wp_region_quiet_below mixed' (by kernel_rfl) ?_
            repeat (first|go_big_quiet_step (first
             | (go_at_call 80;exact Calls.regrown_of (HOw.out _))))
            refine wpQuiet_nil ?_
            intro V5 hw'
            obtain⟨⟨dq,osq⟩,hw''⟩:=hw'
            have hb4:Below V4.heap.size V4 (Go.Sort.grow (redrawn V4 dq) osq):=below_regrown _ _ _
            simp only at hw''
            rw[<-hw''] at hb4
            clear hw'' k0 k1 p0 p1 p2 p3 p4 p5 p6 p7 p8
            go_wp2_with fail
            go_ret
            exact⟨ret_bool HE.out.symm,bel HV4.out.old hb4⟩
          ·have HE:=hide (HFail.out (sl1_bad HWW.out hml (fun h=>hzs (by rw[h.1];omega))))
           have hzn:(l.getD m 0 != (s:Int)+(m:Int))=true:=by simp only[bne_iff_ne,ne_eq];omega
           clear hzs
           generalize l.getD m 0=z at *
           have HOw:Hid (∀ V,Calls Tryz.prog 80 #[.agg (ndA n0),.int .i64 j] V fun e W'=>e=.returned (.bool (ownP n0 j))/\Below V.heap.size V W'):=hide fun V=>own_any n0 j V
           go_upto_region 21 with fail
           have k0:=cell_regrown c2
           have k1:=cell_regrown hzm
           refine wp_region_quiet_below mixed' (by kernel_rfl) ?_
           repeat (first|go_big_quiet_step (first
            | (go_at_call 80;exact Calls.regrown_of (HOw.out _))))
           refine wpQuiet_nil ?_
           intro V5 hw'
           obtain⟨⟨dq,osq⟩,hw''⟩:=hw'
           have hb4:Below V4.heap.size V4 (Go.Sort.grow (redrawn V4 dq) osq):=below_regrown _ _ _
           simp only at hw''
           rw[<-hw''] at hb4
           clear hw'' k0 k1
           go_wp2_with fail
           go_ret
           exact⟨ret_bool HE.out.symm,bel HV4.out.old hb4⟩
         ·obtain rfl:m=l.length:=by omega
          have HOK:=hide (sl1_ok HWW.out HAll.out)
          have HSU2:Hid (slp NS (RS.take (j+1)) 0 0=some (s+l.length)):=hide (by rw[HSU.out,HOK.out];rfl)
          have hj4:j<=1024:=HJ4.out
          go_wp2_with fail
          go_roundw
          case rel=>exact⟨j+1,s+l.length,by omega,by go_num,by go_num,hide HSU2.out,hide HV4.out⟩
          case measure=>simp[intOf];omega
       ·have HE:=hide (HFail.out (sl1_bad HWW.out hl0 (fun h=>hl00 (by rw[h.1];simp))))
        have hln:(l.getD 0 0 != (s:Int))=true:=by simpa using hl00
        clear hl00
        generalize l.getD 0 0=z at *
        go_wp2_with fail
        go_ret
        exact⟨ret_bool HE.out.symm,HV3.out.old⟩
     ·have hq2:(j:Int)<=k:=by omega
      have hq3:¬(j:Int) < k:=by omega
      have HJK:=hide hjk
      clear hjk
      subst hr
      go_wp2_with fail
      refine(HWk.out).mono ?_
      rintro e V3 (⟨hw,rfl,hb3⟩|⟨l,g,c,hw,rfl,ho3,hb3⟩)
      ·have HE:=hide (HFail.out (sl1_no hw))
       have HV3:=hide (HV2.out.later hb3)
       clear hb3 hw
       go_wp2_with fail
       go_ret
       exact⟨ret_bool HE.out.symm,HV3.out.old⟩
      ·obtain⟨hl0,hl1⟩:=wk_len hw
       have HV3:=hide (HV2.out.later hb3)
       have HO3:=hide ho3
       have HWW:=hide hw
       have HMM:=hide (wk_mem _ _ _ l hw)
       have hz0:V3.cell? ⟨g,0,none⟩=some (.int .i64 (l.getD 0 0)):=by
        obtain⟨a',c',e',hi'⟩:=Iz.of_owns ho3
        cases e'
        rcases hi'.cell with h0|⟨b',off',ha',-,hc'⟩
        ·omega
        ·cases ha'
         exact hc' 0 hl0
       have hlc:l.length<=c:=by
        obtain⟨a',c',e',hi'⟩:=Iz.of_owns ho3
        cases e'
        exact hi'.le
       clear hb3 hw ho3
       by_cases hl00:l.getD 0 0=s
       ·rw[hl00] at hz0
        go_wp2_with fail
        go_loopw [8] (fun i wr=>∃ m:Nat,m<=l.length/\i=.int .i64 m/\Hid (∀ t,t < m->l.getD t 0=(s:Int)+t/\ownP (NS.getD (l.getD t 0).toNat n0) j=true)/\Hid (wr.ownsRow V2.heap.size 3 1 (.slice (some ⟨g,0,none⟩) l.length c) l.length (in64 l))/\Hid (Sdt W wr W.heap.size (tr4 (.slice na k nc) (.slice ba k bc) (.slice da dl dc) (.int .i64 ((dl:Int)-1))))) (fun i _=>l.length-(intOf i).toNat)
        case atStart=>exact⟨0,Nat.zero_le _,rfl,hide (by intro t ht;omega),hide HO3.out,hide HV3.out⟩
        case round =>
         obtain⟨m,hm,rfl,HAll,HO4,HV4⟩:=hrel
         rename World=>V4
         clear c0 c1 c2 c3 hz0
         obtain⟨c0,c1,c2,c3⟩:=facts4 HV4.out.box
         by_cases hml:m < l.length
         ·have hzm:V4.cell? ⟨g,m,none⟩=some (.int .i64 (l.getD m 0)):=by
           obtain⟨a',c',e',hi'⟩:=Iz.of_owns HO4.out
           cases e'
           rcases hi'.cell with h0|⟨b',off',ha',-,hc'⟩
           ·omega
           ·cases ha'
            have:=hc' m hml
            rwa[Nat.zero_add] at this
          have hi0:(0:Int)<=m:=by omega
          have hi1:(m:Int) < l.length:=by omega
          by_cases hzs:l.getD m 0=((s+m:Nat):Int)
          ·have hmem:=HMM.out (l.getD m 0) (by rw[List.getD_eq_getElem?_getD,List.getElem?_eq_getElem hml];exact List.getElem_mem hml)
           rw[HLN.out,hzs] at hmem
           have hsm:s+m < dl:=by omega
           obtain⟨g2,off2,rfl,hat⟩:=(HNI.out.later HV4.out.old).at (by omega)
           obtain⟨e0,e1,e2,e3,e4,e5,e6,e7,e8⟩:=hat (s+m) hsm
           clear hat
           rw[show l.getD m 0=(s:Int)+(m:Int) by omega] at hzm
           have hsm0:(0:Int)<=(s:Int)+(m:Int):=by omega
           have hsm1:(s:Int)+(m:Int) < dl:=by omega
           have HOw:=hide fun V=>own_any (NS.getD (s+m) n0) j V
           have HNx:Hid (NS.getD (l.getD m 0).toNat n0=NS.getD (s+m) n0):=hide (by rw[hzs,Int.toNat_natCast])
           have htn:((s:Int)+(m:Int)).toNat=s+m:=by omega
           have HZS:=hide hzs
           clear hzs hmem
           generalize NS.getD (s+m) n0=x at *
           go_upto_region 21 with fail
           have k0:=cell_regrown c2
           have k1:=cell_regrown hzm
           have p0:=cell_regrown e0
           have p1:=cell_regrown e1
           have p2:=cell_regrown e2
           have p3:=cell_regrown e3
           have p4:=cell_regrown e4
           have p5:=cell_regrown e5
           have p6:=cell_regrown e6
           have p7:=cell_regrown e7
           have p8:=cell_regrown e8
           cases how:ownP x j with
           | true =>
            rw[how] at HOw
            have HAll2:Hid (∀ t,t < m+1->l.getD t 0=(s:Int)+t/\ownP (NS.getD (l.getD t 0).toNat n0) j=true):=hide (by
             intro t ht
             by_cases htm:t < m
             ·exact HAll.out t htm
             ·obtain rfl:t=m:=by omega
              exact⟨by rw[HZS.out];omega,by rw[HNx.out];exact how⟩)
            clear how HAll
            refine wp_region_quiet_below mixed' (by kernel_rfl) ?_
            repeat (first|go_big_quiet_step (first
             | (go_at_call 80;exact Calls.regrown_of (HOw.out _))))
            refine wpQuiet_nil ?_
            intro V5 hw'
            obtain⟨⟨dq,osq⟩,hw''⟩:=hw'
            have hb4:Below V4.heap.size V4 (Go.Sort.grow (redrawn V4 dq) osq):=below_regrown _ _ _
            simp only at hw''
            rw[<-hw''] at hb4
            clear hw'' k0 k1 p0 p1 p2 p3 p4 p5 p6 p7 p8
            have HV5:=hide (HV4.out.later hb4)
            have HO5:=hide (owns_kp HO4.out (Kp.of_below [] hb4) (by decide))
            clear hb4
            go_wp2_with fail
            go_roundw
            case rel=>exact⟨m+1,by omega,by go_num,hide HAll2.out,hide HO5.out,hide HV5.out⟩
            case measure=>simp[intOf];omega
           | false =>
            rw[how] at HOw
            have HE:=hide (HFail.out (sl1_bad HWW.out hml (fun h=>by rw[HNx.out,how] at h;cases h.2)))
            clear how
            refine wp_region_quiet_below mixed' (by kernel_rfl) ?_
            repeat (first|go_big_quiet_step (first
             | (go_at_call 80;exact Calls.regrown_of (HOw.out _))))
            refine wpQuiet_nil ?_
            intro V5 hw'
            obtain⟨⟨dq,osq⟩,hw''⟩:=hw'
            have hb4:Below V4.heap.size V4 (Go.Sort.grow (redrawn V4 dq) osq):=below_regrown _ _ _
            simp only at hw''
            rw[<-hw''] at hb4
            clear hw'' k0 k1 p0 p1 p2 p3 p4 p5 p6 p7 p8
            go_wp2_with fail
            go_ret
            exact⟨ret_bool HE.out.symm,bel HV4.out.old hb4⟩
          ·have HE:=hide (HFail.out (sl1_bad HWW.out hml (fun h=>hzs (by rw[h.1];omega))))
           have hzn:(l.getD m 0 != (s:Int)+(m:Int))=true:=by simp only[bne_iff_ne,ne_eq];omega
           clear hzs
           generalize l.getD m 0=z at *
           have HOw:Hid (∀ V,Calls Tryz.prog 80 #[.agg (ndA n0),.int .i64 j] V fun e W'=>e=.returned (.bool (ownP n0 j))/\Below V.heap.size V W'):=hide fun V=>own_any n0 j V
           go_upto_region 21 with fail
           have k0:=cell_regrown c2
           have k1:=cell_regrown hzm
           refine wp_region_quiet_below mixed' (by kernel_rfl) ?_
           repeat (first|go_big_quiet_step (first
            | (go_at_call 80;exact Calls.regrown_of (HOw.out _))))
           refine wpQuiet_nil ?_
           intro V5 hw'
           obtain⟨⟨dq,osq⟩,hw''⟩:=hw'
           have hb4:Below V4.heap.size V4 (Go.Sort.grow (redrawn V4 dq) osq):=below_regrown _ _ _
           simp only at hw''
           rw[<-hw''] at hb4
           clear hw'' k0 k1
           go_wp2_with fail
           go_ret
           exact⟨ret_bool HE.out.symm,bel HV4.out.old hb4⟩
         ·obtain rfl:m=l.length:=by omega
          have HOK:=hide (sl1_ok HWW.out HAll.out)
          have HSU2:Hid (slp NS (RS.take (j+1)) 0 0=some (s+l.length)):=hide (by rw[HSU.out,HOK.out];rfl)
          have hj4:j<=1024:=HJ4.out
          go_wp2_with fail
          go_roundw
          case rel=>exact⟨j+1,s+l.length,by omega,by go_num,by go_num,hide HSU2.out,hide HV4.out⟩
          case measure=>simp[intOf];omega
       ·have HE:=hide (HFail.out (sl1_bad HWW.out hl0 (fun h=>hl00 (by rw[h.1];simp))))
        have hln:(l.getD 0 0 != (s:Int))=true:=by simpa using hl00
        clear hl00
        generalize l.getD 0 0=z at *
        go_wp2_with fail
        go_ret
        exact⟨ret_bool HE.out.symm,HV3.out.old⟩
    ·obtain rfl:j=k+1:=by omega
     have HE:Hid (sndP NM BS NS ((dl:Int)-1)=(s==dl)):=hide (by
      have h0:=HSL.out
      rw[List.take_of_length_le (by rw[HRL.out];omega)] at h0
      rw[HSF.out,h0]
      rfl)
     by_cases hsd:s=dl
     ·subst hsd
      have HE2:Hid (sndP NM BS NS ((s:Int)-1)=true):=hide (HE.out.trans (by simp))
      go_wp2_with fail
      go_ret
      exact⟨ret_bool HE2.out.symm,HV2.out.old⟩
     ·have HE2:=hide (HE.out.trans (show (s==dl)=false by simpa using hsd))
      have hsd2:((s:Int)==(dl:Int))=false:=by simp;omega
      go_wp2_with fail
      go_ret
      exact⟨ret_bool HE2.out.symm,HV2.out.old⟩
end Go.Proofs.YtngnnijpdjhelaaGreat
