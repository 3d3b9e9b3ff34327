import Derived.Test.YtngnnijpdjhelaaGreatX46
namespace Go.Proofs.YtngnnijpdjhelaaGreat
open Go.RowKit Go.IntWalk Lx Pz Go.Sort
set_option linter.unusedVariables false
set_option maxRecDepth 100000
set_option maxHeartbeats 16000000
theorem mixedJ:Tryz.prog.follows .mixedOrders=true:=by kernel_rfl
theorem ar_few {o:Int}(h5:5<=o)(h28:o<=28):∃ m:Nat,1<=m/\m<=3/\prZ o=m:=by
 have h:1<=prZ o/\prZ o<=3:=by
  unfold prZ arZ
  repeat' split
  all_goals omega
 exact⟨(prZ o).toNat,by omega,by omega,by omega⟩
theorem Rs.at {W V:World}{f d co mx:Int}{tv:Array Value}{q sb so vc:Nat}{S:Sps}{D:List Int}(h:Rs W f d tv q (.slice (some ⟨sb,so,none⟩) S.length vc) S co mx D V){b:Nat}(hb:b < S.length):V.cell? ⟨sb,so+b*2,none⟩=some (.int .i64 (S.getD b (0,0)).1)/\V.cell? ⟨sb,so+b*2+1,none⟩=some (.int .i64 (S.getD b (0,0)).2):=by
 obtain⟨va',vc',ev,hSp4⟩:=Spn.Spans.of_owns h.S rfl
 cases ev
 obtain⟨sb',so',e',-,hcs⟩:=hSp4.at (by omega)
 cases e'
 exact hcs b hb
theorem own_below {V V':World}{base:Nat}{e:TypeId}{size n:Nat}{v:Value}{xs:List Value}(h:V.ownsRow base e size v n xs)(hb:Below V.heap.size V V'):V'.ownsRow base e size v n xs :=
 h.kept (⟨hb.os,hb.tape,hb.output,hb.size,fun k hk _=>hb.block k hk⟩:V.grownBy V' none) (by cases hv:v.ownBlock with|none=>exact .inl rfl|some q=>exact .inr (by simp))
theorem jcheck_any (f d:Int){W:World}{na ba da:Option Addr}{nl nc bl bc dl dc:Nat}{root:Int}{NM:List Txt}{BS:List Int}{NS:List Nd}(hX:Tx W na nl nc NM)(hB:Iz W ba bl bc BS)(hN:Nz W da dl dc NS)(hs:∀ s ∈ NM,s.length<=9223372036854775807) :
  Calls Tryz.prog 25 #[.agg (kdA f d),.agg (tr4 (.slice na nl nc) (.slice ba bl bc) (.slice da dl dc) (.int .i64 root))] W (JkP W f d NM BS NS root):=by
 have hb1:=bel1 W (.cells (kdA f d) 23)
 have hb2:=bel hb1 (bel1 (W.alloc (.cells (kdA f d) 23)) (.cells (tr4 (.slice na nl nc) (.slice ba bl bc) (.slice da dl dc) (.int .i64 root)) 28))
 have hb3:=bel hb2 (bel1 ((W.alloc (.cells (kdA f d) 23)).alloc (.cells (tr4 (.slice na nl nc) (.slice ba bl bc) (.slice da dl dc) (.int .i64 root)) 28)) (.cells rep0 50))
 have HK0:=hide (((HasC.new W 23 (kdA f d)).alloc (.cells (tr4 (.slice na nl nc) (.slice ba bl bc) (.slice da dl dc) (.int .i64 root)) 28)).alloc (.cells rep0 50))
 have HT0:Hid (HasC (((W.alloc (.cells (kdA f d) 23)).alloc (.cells (tr4 (.slice na nl nc) (.slice ba bl bc) (.slice da dl dc) (.int .i64 root)) 28)).alloc (.cells rep0 50)) (W.heap.size+1) 28 (tr4 (.slice na nl nc) (.slice ba bl bc) (.slice da dl dc) (.int .i64 root))):=by
  have:=(HasC.new (W.alloc (.cells (kdA f d) 23)) 28 (tr4 (.slice na nl nc) (.slice ba bl bc) (.slice da dl dc) (.int .i64 root))).alloc (.cells rep0 50)
  simp only[World.size_alloc] at this
  exact hide this
 have HR0:Hid (HasC (((W.alloc (.cells (kdA f d) 23)).alloc (.cells (tr4 (.slice na nl nc) (.slice ba bl bc) (.slice da dl dc) (.int .i64 root)) 28)).alloc (.cells rep0 50)) (W.heap.size+1+1) 50 rep0):=by
  have:=HasC.new ((W.alloc (.cells (kdA f d) 23)).alloc (.cells (tr4 (.slice na nl nc) (.slice ba bl bc) (.slice da dl dc) (.int .i64 root)) 28)) 50 rep0
  simp only[World.size_alloc] at this
  exact hide this
 have HX:=hide (hX.later hb3)
 have HBI:=hide (hB.later hb3)
 have HNI:=hide (hN.later hb3)
 have HBW:=hide hB
 have HNW:=hide hN
 have HLN:=hide hN.len
 have HLB:=hide hB.len
 have HS:=hide hs
 have HB0:=hide hb3
 have hdl:dl<=9223372036854775807:=by have:=hN.le;have:=hN.max;unfold maxLen at *;omega
 clear hX hB hN hb1 hb2 hb3 hs
 by_cases hm:Knd.May f d
 case neg =>
  have HMy:=hide fun w=>Knd.rmay_bad f d w hm
  have HF:Hid (ckE f d NM BS NS root=1):=hide (by unfold ckE;rw[if_pos hm])
  go_enter Tryz.func25,Tryz.ntmps25
  go_wp2_with fail
  refine(HMy.out _).mono ?_
  rintro e V1 ⟨rfl,hb⟩
  have HB1:=hide (bel HB0.out hb)
  have HR1:=hide (HR0.out.below hb)
  obtain⟨r0,r1,r2,r3,r4,r5⟩:=three_of HR1.out
  clear hb
  go_wp2_with fail
  obtain⟨hp,hpb⟩:=put_three HR1.out HB1.out (by omega) (.slice none 0 0) (.int .i64 0) (.int .i64 0)
  have p0:=hp.cell 0 rfl
  have p1:=hp.cell 1 rfl
  have p2:=hp.cell 2 rfl
  exact bodyPost_ret (v:=.tuple #[.agg rep0,.int .i64 1]) (by simp[results,Tryz.results25,go_sem,p0,p1,p2]) rfl (.inl (by rw[HF.out];exact⟨by decide,rfl,hpb⟩))
 have HMy:=hide fun w=>Knd.rmay_ok f d w hm
 cases hc:chkP NM BS NS root with
 | false =>
  have HF:Hid (ckE f d NM BS NS root=3):=hide (by unfold ckE;rw[if_neg (by simpa using hm),if_pos hc])
  go_enter Tryz.func25,Tryz.ntmps25
  go_wp2_with fail
  refine(HMy.out _).mono ?_
  rintro e V1 ⟨rfl,hb⟩
  have HB1:=hide (bel HB0.out hb)
  have HR1:=hide (HR0.out.below hb)
  have HT1:=hide (HT0.out.below hb)
  have HSd:=hide (sound_any (root:=root) (HX.out.later hb) (HBI.out.later hb) (HNI.out.later hb) HS.out)
  rw[snd_chk,hc] at HSd
  have t0:=HT1.out.cell 0 rfl
  have t1:=HT1.out.cell 1 rfl
  have t2:=HT1.out.cell 2 rfl
  have t3:=HT1.out.cell 3 rfl
  clear hb
  go_wp2_with fail
  refine HSd.out.mono ?_
  rintro e V2 ⟨rfl,hb⟩
  have HB2:=hide (bel HB1.out hb)
  have HR2:=hide (HR1.out.below hb)
  obtain⟨r0,r1,r2,r3,r4,r5⟩:=three_of HR2.out
  clear hb
  go_wp2_with fail
  obtain⟨hp,hpb⟩:=put_three HR2.out HB2.out (by omega) (.slice none 0 0) (.int .i64 0) (.int .i64 0)
  have p0:=hp.cell 0 rfl
  have p1:=hp.cell 1 rfl
  have p2:=hp.cell 2 rfl
  exact bodyPost_ret (v:=.tuple #[.agg rep0,.int .i64 3]) (by simp[results,Tryz.results25,go_sem,p0,p1,p2]) rfl (.inl (by rw[HF.out];exact⟨by decide,rfl,hpb⟩))
 | true =>
  obtain⟨es,ex,hD⟩:=chk_dec.1 hc
  have HW:=hide hD.wl
  have hfew:dl<=1024:=by rw[<-HLN.out];exact hD.few
  have HMay:=hide hm
  clear hD
  have HF:Hid (ckE f d NM BS NS root=if NS.any (ahB f d)=true then 11 else if (spR f d BS NS []).2≠0 then(spR f d BS NS []).2 else if 200 < coR NS\/24 < mxR (dpR BS NS []) then 14 else 0):=hide (by unfold ckE;rw[if_neg (by simpa using hm),if_neg (by rw[hc];simp)])
  go_enter Tryz.func25,Tryz.ntmps25
  go_wp2_with fail
  refine(HMy.out _).mono ?_
  rintro e V1 ⟨rfl,hb⟩
  have HB1:=hide (bel HB0.out hb)
  have HR1:=hide (HR0.out.below hb)
  have HT1:=hide (HT0.out.below hb)
  have HK1:=hide (HK0.out.below hb)
  have HSd:=hide (sound_any (root:=root) (HX.out.later hb) (HBI.out.later hb) (HNI.out.later hb) HS.out)
  rw[snd_chk,hc] at HSd
  have t0:=HT1.out.cell 0 rfl
  have t1:=HT1.out.cell 1 rfl
  have t2:=HT1.out.cell 2 rfl
  have t3:=HT1.out.cell 3 rfl
  clear hb HB0 HR0 HT0 HK0 HX HBI HNI HMy hm hc HS
  go_wp2_with fail
  refine HSd.out.mono ?_
  rintro e V2 ⟨rfl,hb⟩
  have HB2:=hide (bel HB1.out hb)
  have HR2:=hide (HR1.out.below hb)
  have HT2:=hide (HT1.out.below hb)
  have HK2:=hide (HK1.out.below hb)
  clear hb HB1 HR1 HT1 HK1 HSd t0 t1 t2 t3
  go_wp2_with fail
  go_loopw [6] (fun iv wr=>∃ k:Nat,k<=dl/\iv=.int .i64 k/\Hid ((NS.take k).any (ahB f d)=false)/\Hid (Below V2.heap.size V2 wr)) (fun iv _=>dl-(intOf iv).toNat)
  case atStart=>exact⟨0,Nat.zero_le _,rfl,hide rfl,hide (Below.refl _ _)⟩
  case round =>
   obtain⟨k,hk,rfl,HA,HB⟩:=hrel
   rename World=>V
   have x2:=(HT2.out.below HB.out).cell 2 rfl
   by_cases hlt:k < dl
   ·obtain⟨g,off,rfl,hat⟩:=(HNW.out.later (bel HB2.out HB.out)).at (by omega)
    obtain⟨e0,e1,e2,e3,e4,e5,e6,e7,e8⟩:=hat k hlt
    have hi0:(0:Int)<=k:=by omega
    have hi1:(k:Int) < dl:=by omega
    have hw:=(wl_at HW.out (by rw[HLN.out];exact hlt:k < NS.length)).wf
    have HA2:=hide fun h=>any_snoc (f:=f) (d:=d) (by rw[HLN.out];exact hlt) HA.out h
    have HA3:=hide fun h=>any_of (f:=f) (d:=d) (NS:=NS) (k:=k) (by rw[HLN.out];exact hlt) h
    obtain⟨f0,f1⟩:V.cell? ⟨W.heap.size,0,none⟩=some (.int .i64 f)/\V.cell? ⟨W.heap.size,1,none⟩=some (.int .i64 d):=⟨(HK2.out.below HB.out).cell 0 rfl,(HK2.out.below HB.out).cell 1 rfl⟩
    have HNum:=hide fun w=>Knd.rnumber_any f d (plOf (NS.getD k n0)) w
    rw[<-Knd.num_same] at HNum
    unfold Knd.numV at HNum
    have HE:Hid (ahB f d (NS.getD k n0)=((NS.getD k n0).op==3&&!(Knd.numZ f d (plOf (NS.getD k n0))).isSome)):=hide (by unfold ahB;cases Knd.numZ f d (plOf (NS.getD k n0)) <;> rfl)
    generalize ahB f d (NS.getD k n0)=ab1 at *
    generalize ((Knd.numZ f d (plOf (NS.getD k n0))).getD 0:Int)=zz at *
    generalize (Knd.numZ f d (plOf (NS.getD k n0))).isSome=qq at *
    generalize NS.getD k n0=n at *
    have hgl:g < V.heap.size:=World.block_lt_of_cell? V _ e0
    have HT4:=hide (HT2.out.below HB.out)
    have HK4:=hide (HK2.out.below HB.out)
    have HR4:=hide (HR2.out.below HB.out)
    clear hw e1 e2 e3 e4 hat
    go_wp2_with fail
    go_region_held3 (fun w'=>w'.cell? ⟨W.heap.size,0,none⟩=some (.int .i64 f)/\w'.cell? ⟨W.heap.size,1,none⟩=some (.int .i64 d)/\w'.cell? ⟨W.heap.size+1,2,none⟩=some (.slice (some ⟨g,off,none⟩) dl dc)/\w'.cell? ⟨g,off+k*9+5,none⟩=some (.int .i64 n.back)/\w'.cell? ⟨g,off+k*9+6,none⟩=some (.int .i64 n.co)/\w'.cell? ⟨g,off+k*9+7,none⟩=some (.int .i64 n.x)/\w'.cell? ⟨g,off+k*9+8,none⟩=some (.int .i64 n.y))
     (first|exact⟨f0,f1,x2,e5,e6,e7,e8⟩|exact⟨p0,p1,p2,p5,p6,p7,p8⟩|go_keep)
     ((first
      | (go_at_call 27;refine(HNum.out _).mono ?_;rintro e V4 ⟨rfl,hb4⟩;have hb:=bel (below_drew V) hb4;have HB4:=hide (bel HB.out hb);have m0:=(hb.cell (p:=⟨g,off+k*9,none⟩) hgl).trans e0;have p5:=(hb.cell (p:=⟨g,off+k*9+5,none⟩) hgl).trans e5;have p6:=(hb.cell (p:=⟨g,off+k*9+6,none⟩) hgl).trans e6;have p7:=(hb.cell (p:=⟨g,off+k*9+7,none⟩) hgl).trans e7;have p8:=(hb.cell (p:=⟨g,off+k*9+8,none⟩) hgl).trans e8;have p2:=(HT4.out.below hb).cell 2 rfl;have p0:=(HK4.out.below hb).cell 0 rfl;have p1:=(HK4.out.below hb).cell 1 rfl;have HR5:=hide (HR4.out.below hb);clear hb hb4)))
    all_goals
     by_cases ho:n.op=3
     ·have ho1:(n.op==3)=true:=by simpa using ho
      cases qq with
      | true =>
       have HSt:=hide (HA2.out (by rw[HE.out,ho1];rfl))
       go_wp2_with fail
       go_roundw
       case rel=>exact⟨k+1,by omega,by go_num,hide HSt.out,hide HB4.out⟩
       case measure=>simp[intOf];omega
      | false =>
       have HSt:=hide (HA3.out (by rw[HE.out,ho1];rfl))
       have HF2:Hid (ckE f d NM BS NS root=11):=hide (by rw[HF.out,if_pos HSt.out])
       obtain⟨r0,r1,r2,r3,r4,r5⟩:=three_of HR5.out
       have HB5:=hide (bel HB2.out HB4.out)
       go_wp2_with fail
       obtain⟨hp,hpb⟩:=put_three HR5.out HB5.out (by omega) (.slice none 0 0) (.int .i64 0) (.int .i64 0)
       have p0:=hp.cell 0 rfl
       have p1:=hp.cell 1 rfl
       have p2:=hp.cell 2 rfl
       exact bodyPost_ret (v:=.tuple #[.agg rep0,.int .i64 11]) (by simp[results,Tryz.results25,go_sem,p0,p1,p2]) rfl (.inl (by rw[HF2.out];exact⟨by decide,rfl,hpb⟩))
     ·have ho1:(n.op==3)=false:=by simpa using ho
      have HSt:=hide (HA2.out (by rw[HE.out,ho1];rfl))
      go_wp2_with fail
      go_roundw
      case rel=>exact⟨k+1,by omega,by go_num,hide HSt.out,hide HB4.out⟩
      case measure=>simp[intOf];omega
   ·obtain rfl:k=dl:=by omega
    have HF3:Hid (ckE f d NM BS NS root=if (spR f d BS NS []).2≠0 then(spR f d BS NS []).2 else if 200 < coR NS\/24 < mxR (dpR BS NS []) then 14 else 0):=hide (by
     have e:NS.take k=NS:=List.take_of_length_le (by rw[HLN.out];exact Nat.le_refl _)
     have:=HA.out
     rw[e] at this
     rw[HF.out,if_neg (by rw[this];simp)])
    have hmk:=make_in k hfew
    have zt:W.heap.size+1 < V.heap.size:=(HT2.out.below HB.out).lt
    have zq:W.heap.size+1+1 < V.heap.size:=(HR2.out.below HB.out).lt
    have HQ:Hid (Rs W f d (tr4 (.slice na nl nc) (.slice ba bl bc) (.slice da k dc) (.int .i64 root)) V.heap.size (.slice none 0 0) [] 0 0 (List.replicate k 0) ((V.alloc (.cells rep0 50)).alloc (.cells (inA (List.replicate k 0)) 3))):=hide (by
     have hG:=HasC.new (V.alloc (.cells rep0 50)) 3 (inA (List.replicate k 0))
     rw[World.size_alloc] at hG
     exact⟨bel (bel (bel HB2.out HB.out) (bel1 _ _)) (bel1 _ _),((HK2.out.below HB.out).alloc _).alloc _,((HT2.out.below HB.out).alloc _).alloc _,((HR2.out.below HB.out).alloc _).alloc _,(HasC.new V 50 rep0).alloc _,hG,World.ownsRow_nil _ _ _ _,zq⟩)
    go_wp2_with fail
    obtain⟨U,hU⟩:∃ U,((V.alloc (.cells rep0 50)).alloc (.cells (inA (List.replicate k 0)) 3))=U:=⟨_,rfl⟩
    rw[hU] at HQ ⊢
    clear hU zq zt x2 hmk HB HB2 HR2 HT2 HK2 HA HF
    generalize V.heap.size=q at *
    go_loopw [11] (fun iv wr=>∃(i:Nat) (v:Value) (S:Sps) (D:List Int) (co mx:Int),i<=k/\iv=.int .i64 i/\Hid (spR f d BS (NS.take i) []=(S,0))/\Hid (dpR BS (NS.take i) []=D)/\Hid (coR (NS.take i)=co)/\Hid (mxR D=mx)/\Hid (Rs W f d (tr4 (.slice na nl nc) (.slice ba bl bc) (.slice da k dc) (.int .i64 root)) q v S co mx (D++List.replicate (k-i) 0) wr)) (fun iv _=>k-(intOf iv).toNat)
    case atStart=>exact⟨0,.slice none 0 0,[],[],0,0,Nat.zero_le _,rfl,hide rfl,hide rfl,hide rfl,hide rfl,hide HQ.out⟩
    case round =>
     obtain⟨i,v,S,D,co,mx,hik,rfl,HS,HD,HC,HM,HR⟩:=hrel
     rename World=>V2
     have x2:=HR.out.T.cell 2 rfl
     by_cases hlt:i < k
     ·obtain⟨g,off,rfl,hat⟩:=(HNW.out.later HR.out.bel).at (by omega)
      obtain⟨e0,e1,e2,e3,e4,e5,e6,e7,e8⟩:=hat i hlt
      clear hat
      have hi0:(0:Int)<=i:=by omega
      have hi1:(i:Int) < k:=by omega
      have hSl:S.length=i:=by have:=spR_len HS.out;simp at this;rw[HLN.out] at this;omega
      have hDl:D.length=i:=by rw[<-HD.out,dpR_len];simp;rw[HLN.out];omega
      have HDb:Hid (Db D):=hide (by rw[<-HD.out];exact Db.all (fun x hx=>by simp at hx) (wl_take HW.out i))
      have HWn:=hide (wl_at HW.out (by rw[HLN.out];exact hlt:i < NS.length))
      rw[Nat.zero_add] at HWn
      have HS2:=hide (spR_snoc (n:=NS.getD i n0) HS.out)
      rw[<-take_snoc n0 (by rw[HLN.out];exact hlt)] at HS2
      have HSe:=hide fun(e:Int) (he:e≠0) (h:spR f d BS (NS.take (i+1)) []=([],e))=>(show spR f d BS NS []=([],e) by rw[<-List.take_append_drop (i+1) NS];exact spR_bad h he)
      have HD2:=hide (dpR_snoc BS (NS.take i) (NS.getD i n0) [])
      rw[<-take_snoc n0 (by rw[HLN.out];exact hlt),HD.out] at HD2
      have HC2:=hide (coR_snoc (NS.take i) (NS.getD i n0))
      rw[<-take_snoc n0 (by rw[HLN.out];exact hlt),HC.out] at HC2
      have hco:0<=co/\co<=6*1024:=by
       have:=coR_in (NS.take i)
       rw[HC.out] at this
       have h2:(NS.take i).length<=1024:=by rw[List.length_take];omega
       omega
      have hmx:0<=mx/\mx<=1024:=by
       rw[<-HM.out]
       exact⟨le_fold_max _ _,fold_max_le _ _ _ (by omega) fun x hx=>by have:=HDb.out x hx;omega⟩
      have hz:=coZ_in (NS.getD i n0).op
      have hdn:=dpN_in HDb.out (by rw[hDl];exact HWn.out)
      rw[repI_succ hlt] at HR
      obtain⟨va,vc,rfl,hSp⟩:=Spn.Spans.of_owns HR.out.S rfl
      rw[hSl] at hSp
      have HSp:=hide hSp
      have HSl:=hide hSl
      have hvc:(i:Int)<=vc:=by have:=hSp.le;omega
      generalize NS.getD i n0=n at *
      have HL:=hide (jleaf_any f d n.op n.k (V2.alloc (.cells (ndA n) 65)))
      obtain⟨f0,f1⟩:V2.cell? ⟨W.heap.size,0,none⟩=some (.int .i64 f)/\V2.cell? ⟨W.heap.size,1,none⟩=some (.int .i64 d):=⟨HR.out.K.cell 0 rfl,HR.out.K.cell 1 rfl⟩
      have zK:W.heap.size < V2.heap.size:=HR.out.K.lt
      have hb0:=bel1 V2 (.cells (ndA n) 65)
      have HRa:=hide (HR.out.later hb0)
      have HNa:=hide (HasC.new V2 65 (ndA n))
      clear hSp hSl
      go_wp2_with fail
      refine HL.out.mono ?_
      rintro e V3 ⟨rfl,hb⟩
      have HR3:=hide (HRa.out.later hb)
      have HN3:=hide (HNa.out.below hb)
      have zN:=HN3.out.lt
      have HSp3:=hide (HSp.out.later (bel hb0 hb))
      clear hb hb0 HRa HNa HR HSp e0 e1 e2 e3 e4 e5 e6 e7 e8 f0 f1 zK x2 HL
      generalize V2.heap.size=p at *
      obtain⟨⟨⟨lo,hi⟩,lb⟩,hLZ⟩:∃ Z,lfZ f d n.op n.k=Z:=⟨_,rfl⟩
      have HLZ:=hide hLZ
      rw[hLZ]
      clear hLZ
      have HR4:=hide ((HR3.out.deep hDl 1).later (bel1 _ (.cells #[.int .i64 lo,.int .i64 hi] 103)))
      have HN4:=hide ((HN3.out.other (p:=⟨q+1,i,none⟩) (by have h1:=HR3.out.G;intro e;have h2:=HN3.out;rw[show (⟨q+1,i,none⟩:Addr).block=q+1 from rfl] at e;rw[e] at h2;have:=h2.symm.trans h1;simp at this) (.int .i64 1)).alloc (.cells #[.int .i64 lo,.int .i64 hi] 103))
      have HP4:=hide (HasC.new (V3.setCell ⟨q+1,i,none⟩ (.int .i64 1)) 103 #[.int .i64 lo,.int .i64 hi])
      have hsz:(V3.setCell ⟨q+1,i,none⟩ (.int .i64 1)).heap.size=V3.heap.size:=by simp
      rw[hsz] at HP4
      have y0:=HR3.out.G.frozen i
      have y1:=HR3.out.G.cell i (inA_get _ i (by simp;omega))
      have zG:=HR3.out.G.lt
      have n0':=HN3.out.cell 0 rfl
      have ps:=HSp3
      clear hsz
      by_cases ho:n.op=4
      ·have hl0:=HLZ.out
       rw[lf_in f d (.inl ho)] at hl0
       cases hl0
       have ho1:(n.op==4)=true:=by simpa using ho
       obtain⟨u0,u1,u2,u3⟩:=HWn.out.use ho
       have hspn:spN f d BS S n=(S.getD (BS.getD n.k.toNat 0).toNat (0,0),0):=by unfold spN;rw[if_pos ho]
       have hdpn:dpN BS D n=D.getD (BS.getD n.k.toNat 0).toNat 0:=by unfold dpN;rw[if_pos ho]
       obtain⟨kk,hkk⟩:∃ kk:Nat,n.k=(kk:Int):=⟨n.k.toNat,by omega⟩
       have HS3:=hide HS2.out
       have HD3:=hide HD2.out
       rw[hspn,if_pos rfl] at HS3
       rw[hdpn] at HD3 hdn
       rw[hkk] at u1 u2 u3 HS3 HD3 hdn
       simp only[Int.toNat_natCast] at u1 u2 u3 HS3 HD3 hdn
       obtain⟨b,hbq⟩:∃ b:Nat,BS.getD kk 0=(b:Int):=⟨(BS.getD kk 0).toNat,by omega⟩
       rw[hbq] at u3 HS3 HD3 hdn
       simp only[Int.toNat_natCast] at u3 HS3 HD3 hdn
       obtain⟨bb,boff,rfl,hbb,hbc⟩:∃ b off,ba=some ⟨b,off,none⟩/\b < W.heap.size/\W.cell? ⟨b,off+kk,none⟩=some (.int .i64 (BS.getD kk 0)):=by
        rcases HBW.out.cell with h0|⟨b,off,ha,hlb,hc⟩
        ·rw[HLB.out] at u1;omega
        ·exact⟨b,off,ha,hlb,hc kk (by rw[<-HLB.out];exact u1)⟩
       rw[hbq] at hbc
       have hbl:kk < bl:=by rw[<-HLB.out];exact u1
       have hpq:p≠q+1:=by intro e;have h1:=HR3.out.G;have h2:=HN3.out;rw[e] at h2;have:=h2.symm.trans h1;simp at this
       have HVl:=hide HR3.out.vlt
       have HZ3:=hide HR3.out.G.lt
       clear hspn hdpn ho u0 u1 u2 HWn HSe HSp3 ps HR3 HN3
       go_wp2_with fail
       obtain⟨V4,hV4⟩:∃ V4,((V3.setCell ⟨q+1,i,none⟩ (.int .i64 1)).alloc (.cells #[.int .i64 0,.int .i64 0] 103))=V4:=⟨_,rfl⟩
       rw[hV4] at HR4 HN4 HP4 ⊢
       clear hV4 y0 y1 zG n0' zN
       generalize V3.heap.size=ps at *
       obtain⟨va',vc',ev,hSp4⟩:=Spn.Spans.of_owns HR4.out.S rfl
       cases ev
       obtain⟨sb,so,rfl,-,hcs⟩:=hSp4.at (by have:=HSl.out;omega)
       obtain⟨c0,c1⟩:=hcs b (by have:=HSl.out;omega)
       have o0:=HR4.out.O.cell 0 rfl
       have x1:=HR4.out.T.cell 1 rfl
       have n4':V4.cell? ⟨p,4,none⟩=some (.int .i64 kk):=by rw[HN4.out.cell 4 rfl,<-hkk];rfl
       have bcc:=(HR4.out.bel.cell (p:=⟨bb,boff+kk,none⟩) hbb).trans hbc
       have g0:=HR4.out.G.cell b (inA_get _ b (by simp;omega))
       rw[getI_pre (by omega)] at g0
       have g1:=HR4.out.G.cell i (inA_get _ i (by simp;omega))
       have g2:=HR4.out.G.frozen i
       obtain⟨p0,p1,p2,p3⟩:=two_of HP4.out
       obtain⟨⟨lo,hi⟩,hsv⟩:∃ sv,S.getD b (0,0)=sv:=⟨_,rfl⟩
       obtain⟨x,hxd⟩:∃ x,D.getD b 0=x:=⟨_,rfl⟩
       rw[hsv] at c0 c1 HS3
       rw[hxd] at g0 HD3 hdn
       have HSV:=hide hsv
       have HXD:=hide hxd
       clear hsv hxd
       simp only at c0 c1
       have j0:(0:Int)<=kk:=by omega
       have j1:(kk:Int) < bl:=by omega
       have j2:(0:Int)<=b:=by omega
       have j3:(b:Int) < (S.length:Int):=by have:=HSl.out;omega
       have j4:(b:Int) < k:=by omega
       have j5:(b:Int) < i:=by omega
       have HR5:=hide ((((HR4.out.kept (B:=ps) HZ3.out (fun b hb=>HVl.out b hb) (gset V4 ⟨ps,0,none⟩ (.int .i64 lo)) (fun r e=>by cases e;exact Nat.le_refl _)).kept (B:=ps) HZ3.out (fun b hb=>HVl.out b hb) (gset _ ⟨ps,1,none⟩ (.int .i64 hi)) (fun r e=>by cases e;exact Nat.le_refl _)).deep hDl x).later (below_drew _))
       have hpps:p≠ps:=fun e=>by have h1:=HN4.out;have h2:=HP4.out;rw[e] at h1;have:=h1.symm.trans h2;simp at this
       have HN5':Hid (HasC (((V4.setCell ⟨ps,0,none⟩ (.int .i64 lo)).setCell ⟨ps,1,none⟩ (.int .i64 hi)).setCell ⟨q+1,i,none⟩ (.int .i64 x)).drew p 65 (ndA n)):=hide (((HN4.out.other (p:=⟨ps,0,none⟩) hpps _).other (p:=⟨ps,1,none⟩) hpps _).other (p:=⟨q+1,i,none⟩) hpq _)
       have HP5':Hid (HasC (((V4.setCell ⟨ps,0,none⟩ (.int .i64 lo)).setCell ⟨ps,1,none⟩ (.int .i64 hi)).setCell ⟨q+1,i,none⟩ (.int .i64 x)).drew ps 103 #[.int .i64 lo,.int .i64 hi]):=hide ((set2 HP4.out (.int .i64 lo) (.int .i64 hi)).other (p:=⟨q+1,i,none⟩) (by have:=HZ3.out;show ps≠q+1;omega) _)
       have hps1:ps≠q+1:=by have:=HZ3.out;omega
       have f0:=HR5.out.O.cell 0 rfl
       have f1:=HR5.out.T.cell 1 rfl
       have f2:(((V4.setCell ⟨ps,0,none⟩ (.int .i64 lo)).setCell ⟨ps,1,none⟩ (.int .i64 hi)).setCell ⟨q+1,i,none⟩ (.int .i64 x)).drew.cell? ⟨p,4,none⟩=some (.int .i64 kk):=by rw[HN5'.out.cell 4 rfl,<-hkk];rfl
       have f3:=(HR5.out.bel.cell (p:=⟨bb,boff+kk,none⟩) hbb).trans hbc
       obtain⟨f4,f5⟩:=HR5.out.at (b:=b) (by have:=HSl.out;omega)
       have f6:=HR5.out.G.cell b (inA_get _ b (by simp;omega))
       rw[getI_pre (by omega),HXD.out] at f6
       rw[HSV.out] at f4 f5
       have hps2:ps≠q:=by have:=HZ3.out;omega
       have hps3:ps≠W.heap.size+1:=by have:=HZ3.out;have:=HR4.out.hq;omega
       have hps4:ps≠bb:=by have:=HZ3.out;have:=HR4.out.hq;omega
       have hps5:ps≠p:=fun e=>hpps e.symm
       have hq1:q+1≠p:=fun e=>hpq e.symm
       have hq2:q+1≠W.heap.size+1:=by have:=HR4.out.hq;omega
       have hq3:q+1≠bb:=by have:=HR4.out.hq;omega
       have hq4:q+1≠sb:=fun e=>own_ne' HR4.out.S HR4.out.G (by decide) (by rw[e];rfl)
       have hq5:i≠b:=by omega
       have hq6:q+1≠q:=by omega
       have hq7:q≠W.heap.size:=by have:=HR4.out.hq;omega
       have hq8:W.heap.size≠q:=fun e=>hq7 e.symm
       have hq9:b≠i:=fun e=>hq5 e.symm
       have hps7:ps≠sb:=by have:=HVl.out sb rfl;omega
       have hps6:sb≠ps:=by have:=HVl.out sb rfl;omega
       clear hSp4 hcs hbc hbq u3
       rw[show (tr4 (.slice na nl nc) (.slice (some ⟨bb,boff,none⟩) bl bc) (.slice (some ⟨g,off,none⟩) k dc) (.int .i64 root))[1]=.slice (some ⟨bb,boff,none⟩) bl bc from rfl] at x1
       clear g2
       have g2:=HR4.out.G.frozen i
       go_region_held3 (fun w'=>w'.cell? ⟨q,0,none⟩=some (.slice (some ⟨sb,so,none⟩) S.length vc)/\w'.cell? ⟨W.heap.size+1,1,none⟩=some (.slice (some ⟨bb,boff,none⟩) bl bc)/\w'.cell? ⟨p,4,none⟩=some (.int .i64 kk)/\w'.cell? ⟨bb,boff+kk,none⟩=some (.int .i64 b)/\w'.cell? ⟨sb,so+b*2,none⟩=some (.int .i64 lo)/\w'.cell? ⟨sb,so+b*2+1,none⟩=some (.int .i64 hi)/\w'.cell? ⟨q+1,b,none⟩=some (.int .i64 x))
        (first|exact⟨o0,x1,n4',bcc,c0,c1,g0⟩|exact⟨f0,f1,f2,f3,f4,f5,f6⟩|go_keep) (fail)
       obtain⟨V5,hV5⟩:∃ V5,(((V4.setCell ⟨ps,0,none⟩ (.int .i64 lo)).setCell ⟨ps,1,none⟩ (.int .i64 hi)).setCell ⟨q+1,i,none⟩ (.int .i64 x)).drew=V5:=⟨_,rfl⟩
       rw[hV5] at HR5 HN5' HP5' ⊢
       have HN5:=hide HN5'.out
       have HP5:=hide HP5'.out
       clear hV5 HR4 HN4 HP4 c0 c1 o0 x1 n4' bcc g0 g1 g2 p0 p1 p2 p3 HN5' HP5' j0 j1 j2 j3 j4 j5 hps1 hps2 hps3 hps4 hps5 hps6 hps7 hpps hq1 hq2 hq3 hq4 hq5 hq6 hq7 hq8 hq9 HVl HZ3 f0 f1 f2 f3 f4 f5 f6
       have HLt:Hid (HasC (V5.alloc (.cells #[.int .i64 lo,.int .i64 hi] 103)) (V5.heap.size) 103 #[.int .i64 lo,.int .i64 hi]):=hide (by
        have h:=HasC.new V5 103 #[.int .i64 lo,.int .i64 hi]
        try simp only[World.size_alloc,World.size_setCell] at h
        exact h)
       obtain⟨o0,o1,o2,o3,o4,o5⟩:=three_of HR5.out.O
       obtain⟨s0,s1,-,-⟩:=two_of HP5.out
       have zO:=HR5.out.O.lt
       go_wp2_with (at_builtin;go_loud (refine app_list (L:=S) rfl _ _ rfl rfl (HR5.out.S.alloc _) (by have:=HR5.out.bel.size;simp only[World.size_alloc] at this ⊢;omega) _ lo hi rfl HLt.out (by have:=HSl.out;omega) ?_;intro g2 cap2 V7 hown hgrow;have HR6:=hide (HR5.out.later (bel1 _ (.cells #[.int .i64 lo,.int .i64 hi] 103)));have hO7:=HR6.out.O.kept hgrow (fun e=>own_ne' HR6.out.S HR6.out.O (by decide) e.symm);have HR8:=hide (HR6.out.grow hown hgrow);have hN7:=(HN5.out.alloc (.cells #[.int .i64 lo,.int .i64 hi] 103)).kept hgrow (fun e=>own_ne' HR6.out.S (HN5.out.alloc (.cells #[.int .i64 lo,.int .i64 hi] 103)) (by decide) e.symm);have HN8:=hide (hN7.other (p:=⟨q,0,none⟩) (fun e=>by have h2:=hN7;rw[show p=q from e] at h2;have:=h2.symm.trans hO7;simp at this) (.slice (some ⟨g2,0,none⟩) (S.length+1) cap2));obtain⟨u0,-,-,u3,-,-⟩:=three_of hO7;clear hown hgrow hO7 hN7))
       obtain⟨V8,hV8⟩:∃ V8,V7.setCell ⟨q,0,none⟩ (.slice (some ⟨g2,0,none⟩) (S.length+1) cap2)=V8:=⟨_,rfl⟩
       rw[hV8] at HR8 HN8 ⊢
       clear hV8 o0 o1 o2 o3 o4 o5 s0 s1 u0 u3 HR5 HN5 HP5
       have w0:=cell_regrown (HR8.out.O.cell 1 rfl)
       have w1:=cell_regrown (HN8.out.cell 0 rfl)
       generalize hcz:coZ n.op=cz at *
       have HJC:=fun W=>hide (jcost_bel n.op W)
       rw[hcz] at HJC
       have HCZ:=hide hcz
       clear hcz
       have v1:IntKind.i64.wrap (co+cz)=co+cz:=by rw[IntKind.wrap_i64];omega
       refine Spn.wp_region_quiet_last_lit (hf:=(List.dropLast_concat_getLast (by simp)).symm) mixedJ (by kernel_rfl) rfl (by kernel_rfl) (by kernel_rfl) (by kernel_rfl) (by kernel_rfl) (by kernel_rfl) ?_
       simp only[List.dropLast_cons_cons,List.dropLast_singleton,List.getLast_cons_cons,List.getLast_singleton]
       repeat (go_big_quiet_step ((go_at_call 58;exact Calls.regrown_of (HJC _).out)))
       refine wpQuiet_nil ?_
       intro _ hw'
       obtain⟨pq,hw''⟩:=hw'
       subst hw''
       have HR9:=hide (HR8.out.later (below_regrown V8 pq.d pq.os))
       clear HR8 HN8 w0 w1
       generalize grow (redrawn V8 pq.d) pq.os=V9 at *
       obtain⟨o0,o1,o2,o3,o4,o5⟩:=three_of HR9.out.O
       have HRc:=hide (HR9.out.cost (co+cz))
       go_wp2_with fail
       obtain⟨Va,hVa⟩:∃ Va,V9.setCell ⟨q,1,none⟩ (.int .i64 (co+cz))=Va:=⟨_,rfl⟩
       rw[hVa] at HRc ⊢
       clear hVa o0 o1 o2 o3 o4 o5 HR9
       have g0:=HRc.out.G.cell i (inA_get _ i (by simp;omega))
       have hgx:(D++x::List.replicate (k-(i+1)) 0).getD i 0=x:=by rw[List.getD_eq_getElem?_getD,List.getElem?_append_right (by omega),hDl];simp
       rw[hgx] at g0
       have m2:=HRc.out.O.cell 2 rfl
       have HC3:=hide HC2.out
       have HM3:=hide (mx_snoc (x:=x) HM.out)
       have HGX:=hide hgx
       clear hgx
       by_cases hgt:mx < x
       ·have hgd:decide (mx < x)=true:=by simpa using hgt
        go_quiet (fail)
        have HRd:=hide (HRc.out.later (below_drewN Va nq))
        have HRe:=hide (HRd.out.depth (x))
        have g1:=HRd.out.G.cell i (inA_get _ i (by simp;omega))
        rw[HGX.out] at g1
        obtain⟨o0,o1,o2,o3,o4,o5⟩:=three_of HRd.out.O
        go_wp2_with fail
        go_roundw
        case rel=>exact⟨i+1,_,S++[(lo,hi)],D++[x],co+cz,x,by omega,by go_num,hide HS3.out,hide HD3.out,hide HC3.out,hide (by rw[HM3.out];omega),hide (by rw[List.append_assoc];exact HRe.out)⟩
        case measure=>simp[intOf];omega
       ·have hgd:decide (mx < x)=false:=by simpa using hgt
        go_quiet (fail)
        have HRd:=hide (HRc.out.later (below_drewN Va nq))
        go_wp2_with fail
        go_roundw
        case rel=>exact⟨i+1,_,S++[(lo,hi)],D++[x],co+cz,mx,by omega,by go_num,hide HS3.out,hide HD3.out,hide HC3.out,hide (by rw[HM3.out];omega),hide (by rw[List.append_assoc];exact HRd.out)⟩
        case measure=>simp[intOf];omega
      by_cases ho2:n.op=1\/n.op=2\/n.op=3
      ·obtain⟨hb1,hb2,hb3⟩:=lf_leaf (S:=S) HMay.out HWn.out ho2
       rw[HLZ.out] at hb1 hb2
       have hb1:lb=true:=hb1
       subst hb1
       have ho1:(n.op==4)=false:=by simpa using ho
       have HS3:=hide HS2.out
       rw[hb2,if_pos rfl] at HS3
       have HD3:=hide HD2.out
       rw[hb3 D] at HD3
       have hpq:p≠q+1:=by intro e;have h1:=HR3.out.G;have h2:=HN3.out;rw[e] at h2;have:=h2.symm.trans h1;simp at this
       have HR5:=hide HR4.out
       have HN5:=hide HN4.out
       have HP5:=hide HP4.out
       clear hb2 hb3 ho ho2 HR3 HN3 HR4 HN4 HP4 hb1
       have HLt:Hid (HasC (((V3.setCell ⟨q+1,i,none⟩ (.int .i64 1)).alloc (.cells #[.int .i64 lo,.int .i64 hi] 103)).alloc (.cells #[.int .i64 lo,.int .i64 hi] 103)) (V3.heap.size+1) 103 #[.int .i64 lo,.int .i64 hi]):=hide (by
        have h:=HasC.new ((V3.setCell ⟨q+1,i,none⟩ (.int .i64 1)).alloc (.cells #[.int .i64 lo,.int .i64 hi] 103)) 103 #[.int .i64 lo,.int .i64 hi]
        try simp only[World.size_alloc,World.size_setCell] at h
        exact h)
       obtain⟨o0,o1,o2,o3,o4,o5⟩:=three_of HR5.out.O
       obtain⟨s0,s1,-,-⟩:=two_of HP5.out
       have zO:=HR5.out.O.lt
       go_wp2_with (at_builtin;go_loud (refine app_list (L:=S) rfl _ _ rfl rfl (HR5.out.S.alloc _) (by have:=HR5.out.bel.size;simp only[World.size_alloc] at this ⊢;omega) _ lo hi rfl HLt.out (by have:=HSl.out;omega) ?_;intro g2 cap2 V7 hown hgrow;have HR6:=hide (HR5.out.later (bel1 _ (.cells #[.int .i64 lo,.int .i64 hi] 103)));have hO7:=HR6.out.O.kept hgrow (fun e=>own_ne' HR6.out.S HR6.out.O (by decide) e.symm);have HR8:=hide (HR6.out.grow hown hgrow);have hN7:=(HN5.out.alloc (.cells #[.int .i64 lo,.int .i64 hi] 103)).kept hgrow (fun e=>own_ne' HR6.out.S (HN5.out.alloc (.cells #[.int .i64 lo,.int .i64 hi] 103)) (by decide) e.symm);have HN8:=hide (hN7.other (p:=⟨q,0,none⟩) (fun e=>by have h2:=hN7;rw[show p=q from e] at h2;have:=h2.symm.trans hO7;simp at this) (.slice (some ⟨g2,0,none⟩) (S.length+1) cap2));obtain⟨u0,-,-,u3,-,-⟩:=three_of hO7;clear hown hgrow hO7 hN7))
       obtain⟨V8,hV8⟩:∃ V8,V7.setCell ⟨q,0,none⟩ (.slice (some ⟨g2,0,none⟩) (S.length+1) cap2)=V8:=⟨_,rfl⟩
       rw[hV8] at HR8 HN8 ⊢
       clear hV8 o0 o1 o2 o3 o4 o5 s0 s1 u0 u3 HR5 HN5 HP5
       have w0:=cell_regrown (HR8.out.O.cell 1 rfl)
       have w1:=cell_regrown (HN8.out.cell 0 rfl)
       generalize hcz:coZ n.op=cz at *
       have HJC:=fun W=>hide (jcost_bel n.op W)
       rw[hcz] at HJC
       have HCZ:=hide hcz
       clear hcz
       have v1:IntKind.i64.wrap (co+cz)=co+cz:=by rw[IntKind.wrap_i64];omega
       refine Spn.wp_region_quiet_last_lit (hf:=(List.dropLast_concat_getLast (by simp)).symm) mixedJ (by kernel_rfl) rfl (by kernel_rfl) (by kernel_rfl) (by kernel_rfl) (by kernel_rfl) (by kernel_rfl) ?_
       simp only[List.dropLast_cons_cons,List.dropLast_singleton,List.getLast_cons_cons,List.getLast_singleton]
       repeat (go_big_quiet_step ((go_at_call 58;exact Calls.regrown_of (HJC _).out)))
       refine wpQuiet_nil ?_
       intro _ hw'
       obtain⟨pq,hw''⟩:=hw'
       subst hw''
       have HR9:=hide (HR8.out.later (below_regrown V8 pq.d pq.os))
       clear HR8 HN8 w0 w1
       generalize grow (redrawn V8 pq.d) pq.os=V9 at *
       obtain⟨o0,o1,o2,o3,o4,o5⟩:=three_of HR9.out.O
       have HRc:=hide (HR9.out.cost (co+cz))
       go_wp2_with fail
       obtain⟨Va,hVa⟩:∃ Va,V9.setCell ⟨q,1,none⟩ (.int .i64 (co+cz))=Va:=⟨_,rfl⟩
       rw[hVa] at HRc ⊢
       clear hVa o0 o1 o2 o3 o4 o5 HR9
       have g0:=HRc.out.G.cell i (inA_get _ i (by simp;omega))
       have hgx:(D++1::List.replicate (k-(i+1)) 0).getD i 0=1:=by rw[List.getD_eq_getElem?_getD,List.getElem?_append_right (by omega),hDl];simp
       rw[hgx] at g0
       have m2:=HRc.out.O.cell 2 rfl
       have HC3:=hide HC2.out
       have HM3:=hide (mx_snoc (x:=1) HM.out)
       have HGX:=hide hgx
       clear hgx
       by_cases hgt:mx < 1
       ·have hgd:decide (mx < 1)=true:=by simpa using hgt
        go_quiet (fail)
        have HRd:=hide (HRc.out.later (below_drewN Va nq))
        have HRe:=hide (HRd.out.depth (1))
        have g1:=HRd.out.G.cell i (inA_get _ i (by simp;omega))
        rw[HGX.out] at g1
        obtain⟨o0,o1,o2,o3,o4,o5⟩:=three_of HRd.out.O
        go_wp2_with fail
        go_roundw
        case rel=>exact⟨i+1,_,S++[(lo,hi)],D++[1],co+cz,1,by omega,by go_num,hide HS3.out,hide HD3.out,hide HC3.out,hide (by rw[HM3.out];omega),hide (by rw[List.append_assoc];exact HRe.out)⟩
        case measure=>simp[intOf];omega
       ·have hgd:decide (mx < 1)=false:=by simpa using hgt
        go_quiet (fail)
        have HRd:=hide (HRc.out.later (below_drewN Va nq))
        go_wp2_with fail
        go_roundw
        case rel=>exact⟨i+1,_,S++[(lo,hi)],D++[1],co+cz,mx,by omega,by go_num,hide HS3.out,hide HD3.out,hide HC3.out,hide (by rw[HM3.out];omega),hide (by rw[List.append_assoc];exact HRd.out)⟩
        case measure=>simp[intOf];omega
      have hl0:=HLZ.out
      rw[lf_in f d (.inr (by have:=HWn.out.lo;omega))] at hl0
      cases hl0
      have h5:5<=n.op:=by have:=HWn.out.lo;omega
      have h28:=HWn.out.hi
      have ho1:(n.op==4)=false:=by simpa using ho
      obtain⟨m,hm1,hm3,hm⟩:=ar_few h5 h28
      have HPl:=hide (prts_len hm hm3)
      have hspn:spN f d BS S n=Spn.ofZ n.op 0 0 ((prts n).map fun p=>S.getD p.toNat (0,0)):=by unfold spN;rw[if_neg ho,if_neg (by omega),if_neg (by omega),if_neg (by omega)]
      have hdpn:dpN BS D n=((prts n).map fun p=>D.getD p.toNat 0).foldl max 0+1:=by unfold dpN;rw[if_neg ho]
      rw[hspn] at HS2
      have HD3:=hide HD2.out
      rw[hdpn] at HD3 hdn
      have HAt:=hide fun(j:Nat) (hj:j < m)=>(show (ab3 n)[j]?=some (.int .i64 ((prts n).getD j 0))/\∃ b:Nat,(prts n).getD j 0=(b:Int)/\b < i by
       obtain⟨h1,h2⟩:=prts_at hm hm3 hj
       obtain⟨h3,h4⟩:=HWn.out.prt _ h2
       exact⟨h1,((prts n).getD j 0).toNat,by omega,h4⟩)
      have HAr:=hide fun w=>Spn.rarity_any n.op w
      rw[ar_same,HWn.out.ar ho,hm] at HAr
      have hi0':i≠0:=by obtain⟨-,b,-,hb⟩:=HAt.out 0 (by omega);omega
      have HSA:=hide fun(j:Nat) (hj:j < (prts n).length)=>sp_args (S:=S) hj
      have HDA:=hide fun(j:Nat) (hj:j < (prts n).length)=>dp_args (D:=D) hj
      rw[HPl.out] at HSA HDA
      have HLM:Hid (((prts n).map fun p=>S.getD p.toNat (0,0)).length=m/\((prts n).map fun p=>D.getD p.toNat 0).length=m):=hide (by simp[HPl.out])
      have hpq:p≠q+1:=by intro e;have h1:=HR3.out.G;have h2:=HN3.out;rw[e] at h2;have:=h2.symm.trans h1;simp at this
      have HVl:=hide HR3.out.vlt
      have HZ3:=hide HR3.out.G.lt
      have n1':=HN3.out.cell 1 rfl
      have n2':=HN3.out.cell 2 rfl
      have n3':=HN3.out.cell 3 rfl
      have zN':=hide zN
      have HR6:=hide (HR4.out.later (bel1 _ (.cells (ab3 n) 3)))
      have HN6:=hide (HN4.out.alloc (.cells (ab3 n) 3))
      have HP6:=hide (HP4.out.alloc (.cells (ab3 n) 3))
      have HA6:Hid (HasC (((V3.setCell ⟨q+1,i,none⟩ (.int .i64 1)).alloc (.cells #[.int .i64 0,.int .i64 0] 103)).alloc (.cells (ab3 n) 3)) (V3.heap.size+1) 3 (ab3 n)):=hide (by
       have h:=HasC.new ((V3.setCell ⟨q+1,i,none⟩ (.int .i64 1)).alloc (.cells #[.int .i64 0,.int .i64 0] 103)) 3 (ab3 n)
       simp only[World.size_alloc,World.size_setCell] at h
       exact h)
      have HB6:Hid (V3.heap.size+2<=(((V3.setCell ⟨q+1,i,none⟩ (.int .i64 1)).alloc (.cells #[.int .i64 0,.int .i64 0] 103)).alloc (.cells (ab3 n) 3)).heap.size):=hide (by simp)
      clear hspn hdpn ho ho2 HWn HSp3 ps HR3 HN3 HR4 HN4 HP4
      go_wp2_with fail
      obtain⟨V4,hV4⟩:∃ V4,(((V3.setCell ⟨q+1,i,none⟩ (.int .i64 1)).alloc (.cells #[.int .i64 0,.int .i64 0] 103)).alloc (.cells (ab3 n) 3))=V4:=⟨_,rfl⟩
      rw[hV4] at HR6 HN6 HP6 HA6 HB6 ⊢
      clear hV4 y0 y1 zG n0' zN n1' n2' n3'
      generalize V3.heap.size=ps at *
      obtain⟨va',vc',ev,hSp4⟩:=Spn.Spans.of_owns HR6.out.S rfl
      cases ev
      obtain⟨sb,so,rfl,-,-⟩:=hSp4.at (by have:=HSl.out;omega)
      clear hSp4
      generalize hL:((prts n).map fun p=>S.getD p.toNat (0,0))=L at *
      generalize hM:((prts n).map fun p=>D.getD p.toNat 0)=M at *
      clear hL hM
      go_loopw [16,17] (fun v16 iv wr=>∃ j:Nat,j<=m/\iv=.int .i64 j/\Hid (wr.ownsRow (ps+2) 103 2 v16 j (Spn.sp64 (L.take j)))/\Hid (Rs W f d (tr4 (.slice na nl nc) (.slice ba bl bc) (.slice (some ⟨g,off,none⟩) k dc) (.int .i64 root)) q (.slice (some ⟨sb,so,none⟩) S.length vc) S co mx (D++((M.take j).foldl max 0+1)::List.replicate (k-(i+1)) 0) wr)/\Hid (HasC wr p 65 (ndA n))/\Hid (HasC wr ps 103 #[.int .i64 0,.int .i64 0])/\Hid (HasC wr (ps+1) 3 (ab3 n))/\Hid (ps+2<=wr.heap.size)) (fun _ iv _=>m-(intOf iv).toNat)
      case atStart=>exact⟨0,Nat.zero_le _,rfl,hide (World.ownsRow_nil _ _ _ _),hide HR6.out,hide HN6.out,hide HP6.out,hide HA6.out,hide HB6.out⟩
      case round =>
       clear HR6 HN6 HP6 HA6 HB6
       obtain⟨j,hj,rfl,HO,HR6,HN6,HP6,HA6,HB6⟩:=hrel
       rename World=>V5
       rename_i v16
       have n0':=HN6.out.cell 0 rfl
       go_wp2_with fail
       refine(HAr.out _).mono ?_
       rintro e V5 ⟨rfl,rfl⟩
       by_cases hjm:j < m
       ·obtain⟨ha,b,hb,hbi⟩:=HAt.out j hjm
        have a0:=HA6.out.cell j ha
        rw[hb] at a0
        have HL1:=hide (HSA.out j hjm)
        have HD1:=hide (HDA.out j hjm)
        rw[hb,Int.toNat_natCast] at HL1 HD1
        have hdb:=HDb.out.at (show b < D.length by omega)
        have HSb:Hid (b < S.length):=hide (by have:=HSl.out;omega)
        obtain⟨⟨lo,hi⟩,hsv⟩:∃ sv,S.getD b (0,0)=sv:=⟨_,rfl⟩
        have HSV:=hide hsv
        rw[hsv] at HL1
        obtain⟨c0,c1⟩:=HR6.out.at HSb.out
        rw[hsv] at c0 c1
        simp only at c0 c1
        have o0:=HR6.out.O.cell 0 rfl
        clear hsv
        have HAj:=hide ha
        have hb7:=bel (below_drew V5) (bel1 V5.drew (.cells #[.int .i64 lo,.int .i64 hi] 103))
        have HO7:=hide (own_below HO.out hb7)
        have HR7a:=hide (HR6.out.later hb7)
        have HN7a:=hide (HN6.out.below hb7)
        have HP7a:=hide (HP6.out.below hb7)
        have HA7a:=hide (HA6.out.below hb7)
        have HOl:=hide fun r e=>(HO.out.lt r e).1
        have HB7:Hid (ps+2<=(V5.drew.alloc (.cells #[.int .i64 lo,.int .i64 hi] 103)).heap.size):=hide (by have:=HB6.out;have:=hb7.size;omega)
        have HL7:=hide (HasC.new V5.drew 103 #[.int .i64 lo,.int .i64 hi])
        have zs:sb < ps:=HVl.out sb rfl
        have zq:q+1 < ps:=HZ3.out
        have j0:(0:Int)<=j:=by omega
        have j1:(j:Int) < 3:=by omega
        have j2:(0:Int)<=b:=by omega
        have j3:(b:Int) < (S.length:Int):=by have:=HSl.out;omega
        rw[hb] at HAj
        clear n0' ha hb hb7
        go_wp2_with fail
        go_region_held3 (fun w'=>w'.cell? ⟨q,0,none⟩=some (.slice (some ⟨sb,so,none⟩) S.length vc)/\w'.cell? ⟨ps+1,j,none⟩=some (.int .i64 b)/\w'.cell? ⟨sb,so+b*2,none⟩=some (.int .i64 lo)/\w'.cell? ⟨sb,so+b*2+1,none⟩=some (.int .i64 hi))
         (first|exact⟨o0,a0,c0,c1⟩|exact⟨k0,k1,k2,k3⟩|go_keep)
         ((refine app_step (L:=L.take j) (by rfl) _ _ (by rfl) (by rfl) HO7.out (by have:=HB7.out;exact this) _ lo hi (by rfl) HL7.out (by omega) ?_;intro g2 cap2 V7 hown hgrow;have HR7:=hide (HR7a.out.kept (B:=ps) zq (fun b hb=>HVl.out b hb) hgrow (fun r e=>by have:=HOl.out r e;omega));have HN7:=hide (HN7a.out.kept hgrow (fun e=>by have:=HOl.out p e.symm;have:=zN'.out;omega));have HP7:=hide (HP7a.out.kept hgrow (fun e=>by have:=HOl.out ps e.symm;omega));have HA7:=hide (HA7a.out.kept hgrow (fun e=>by have:=HOl.out (ps+1) e.symm;omega));have HO8:=hide hown;have HB8:Hid (ps+2<=V7.heap.size):=hide (Nat.le_trans HB7.out hgrow.size);have k0:=HR7.out.O.cell 0 rfl;have k1:=HA7.out.cell j HAj.out;obtain⟨k2,k3⟩:=HR7.out.at HSb.out;rw[HSV.out] at k2 k3;clear hown hgrow))
        have HR8a:=hide HR7.out
        have g0:=HR7.out.G.cell i (inA_get _ i (by simp;omega))
        have gb:=HR7.out.G.cell b (inA_get _ b (by simp;omega))
        have hgx:(D++((M.take j).foldl max 0+1)::List.replicate (k-(i+1)) 0).getD i 0=(M.take j).foldl max 0+1:=by rw[List.getD_eq_getElem?_getD,List.getElem?_append_right (by omega),hDl];simp
        rw[hgx] at g0
        rw[getI_pre (by omega)] at gb
        have a1:=HA7.out.cell j HAj.out
        have HO9:=hide HO8.out
        rw[<-Spn.sp64_snoc,<-HL1.out] at HO9
        have HDb1:=hide HD1.out
        have hq1:p≠q+1:=hpq
        clear o0 a0 c0 c1 k0 k1 k2 k3 hgx HO8 HL1 HD1 HR8a
        generalize (M.take j).foldl max 0=c at *
        obtain⟨y,hy⟩:∃ y,D.getD b 0=y:=⟨_,rfl⟩
        rw[hy] at hdb gb HDb1
        have HY:=hide hy
        clear hy
        have v1:IntKind.i64.wrap (y+1)=y+1:=by rw[IntKind.wrap_i64];omega
        have j4:(b:Int) < k:=by omega
        by_cases hgt:c+1 < y+1
        ·have hgd:decide (c+1 < y+1)=true:=by simpa using hgt
         have hmx1:(M.take (j+1)).foldl max 0+1=y+1:=by rw[HDb1.out];omega
         go_wp2_with fail
         go_quiet (fail)
         have hbq:=below_drewN V7 nq
         have HR8:=hide (HR7.out.later hbq)
         have HN8:=hide (HN7.out.below hbq)
         have HP8:=hide (HP7.out.below hbq)
         have HA8:=hide (HA7.out.below hbq)
         have HO10:=hide (own_below HO9.out hbq)
         have HB9:=hide (Nat.le_trans HB8.out hbq.size)
         clear hbq HR7 HN7 HP7 HA7 HO9 g0 gb a1
         generalize (V7.drewN nq)=V8 at *
         have g0:=HR8.out.G.cell i (inA_get _ i (by simp;omega))
         have gb:=HR8.out.G.cell b (inA_get _ b (by simp;omega))
         rw[getI_pre (by omega),HY.out] at gb
         have g9:=HR8.out.G.frozen i
         have a1:=HA8.out.cell j HAj.out
         have HR9:=hide (HR8.out.deep hDl (y+1))
         have HN9:=hide (HN8.out.other (p:=⟨q+1,i,none⟩) hpq (.int .i64 (y+1)))
         have HP9:=hide (HP8.out.other (p:=⟨q+1,i,none⟩) (by show ps≠q+1;omega) (.int .i64 (y+1)))
         have HA9:=hide (HA8.out.other (p:=⟨q+1,i,none⟩) (by show ps+1≠q+1;omega) (.int .i64 (y+1)))
         have HO11:=hide (HO10.out.kept (gset V8 ⟨q+1,i,none⟩ (.int .i64 (y+1))) (.inr (own_ne' HO10.out HR8.out.G (by decide))))
         have HB10:Hid (ps+2<=(V8.setCell ⟨q+1,i,none⟩ (.int .i64 (y+1))).heap.size):=hide (by rw[World.size_setCell];exact HB9.out)
         clear HR8 HN8 HP8 HA8 HO10 HB9
         go_wp2_with fail
         go_roundw
         case rel=>exact⟨j+1,by omega,by go_num,hide HO11.out,hide (by rw[hmx1];exact HR9.out),hide HN9.out,hide HP9.out,hide HA9.out,hide HB10.out⟩
         case measure=>simp[intOf];omega
        ·have hgd:decide (c+1 < y+1)=false:=by simpa using hgt
         have hmx1:(M.take (j+1)).foldl max 0+1=c+1:=by rw[HDb1.out];omega
         go_wp2_with fail
         go_quiet (fail)
         have hbq:=below_drewN V7 nq
         have HR8:=hide (HR7.out.later hbq)
         have HN8:=hide (HN7.out.below hbq)
         have HP8:=hide (HP7.out.below hbq)
         have HA8:=hide (HA7.out.below hbq)
         have HO10:=hide (own_below HO9.out hbq)
         have HB9:=hide (Nat.le_trans HB8.out hbq.size)
         clear hbq HR7 HN7 HP7 HA7 HO9
         go_wp2_with fail
         go_roundw
         case rel=>exact⟨j+1,by omega,by go_num,hide HO10.out,hide (by rw[hmx1];exact HR8.out),hide HN8.out,hide HP8.out,hide HA8.out,hide HB9.out⟩
         case measure=>simp[intOf];omega
       ·obtain rfl:j=m:=by omega
        have et:L.take j=L:=List.take_of_length_le (by have:=HLM.out.1;omega)
        have em:M.take j=M:=List.take_of_length_le (by have:=HLM.out.2;omega)
        rw[et] at HO
        rw[em] at HR6
        obtain⟨a2,c2,rfl,hSpA⟩:=Spn.Spans.of_owns HO.out HLM.out.1
        have HQo:=hide (Spn.qof_any n.op 0 0 a2 j c2 L V5 hSpA)
        generalize Spn.ofZ n.op 0 0 L=z at *
        obtain⟨⟨lo,hi⟩,er⟩:=z
        simp only at HS2
        clear HO hSpA et em HSA HDA HAt HLM HPl HA6 HAr
        go_wp2_with fail
        refine HQo.out.mono ?_
        rintro e V6 ⟨rfl,hb⟩
        have HR7:=hide (HR6.out.later hb)
        have HN7:=hide (HN6.out.below hb)
        have HP7:=hide (HP6.out.below hb)
        have zP:=HP7.out.lt
        have n0':=HN7.out.cell 0 rfl
        obtain⟨s0,s1,s2,s3⟩:=two_of HP7.out
        clear hb HR6 HN6 HP6 HQo
        by_cases her:er=0
        ·subst her
         have HS3:=hide HS2.out
         rw[if_pos rfl] at HS3
         obtain⟨x,hx⟩:∃ x,M.foldl max 0+1=x:=⟨_,rfl⟩
         rw[hx] at HR7 HD3 hdn
         clear hx
         have zq:q+1 < ps:=HZ3.out
         have o0':=HR7.out.O.cell 0 rfl
         have HR5:=hide (((HR7.out.kept (B:=ps) zq (fun b hb=>HVl.out b hb) (gset V6 ⟨ps,0,none⟩ (.int .i64 lo)) (fun r e=>by cases e;exact Nat.le_refl _)).kept (B:=ps) zq (fun b hb=>HVl.out b hb) (gset _ ⟨ps,1,none⟩ (.int .i64 hi)) (fun r e=>by cases e;exact Nat.le_refl _)).later (bel1 _ (.cells #[.int .i64 lo,.int .i64 hi] 103)))
         have hpps:p≠ps:=by have:=zN'.out;omega
         have HN5:=hide (((HN7.out.other (p:=⟨ps,0,none⟩) hpps (.int .i64 lo)).other (p:=⟨ps,1,none⟩) hpps (.int .i64 hi)).alloc (.cells #[.int .i64 lo,.int .i64 hi] 103))
         have HP5:=hide ((set2 HP7.out (.int .i64 lo) (.int .i64 hi)).alloc (.cells #[.int .i64 lo,.int .i64 hi] 103))
         have hps2:ps≠q:=by omega
         have hps9:q≠ps:=by omega
         have hps5:ps≠p:=fun e=>hpps e.symm
         have zO':=HR7.out.O.lt
         clear HR7 HN7 HP7
         have HLt:Hid (HasC ((((V6.setCell ⟨ps,0,none⟩ (.int .i64 lo)).setCell ⟨ps,1,none⟩ (.int .i64 hi)).alloc (.cells #[.int .i64 lo,.int .i64 hi] 103)).alloc (.cells #[.int .i64 lo,.int .i64 hi] 103)) (V6.heap.size+1) 103 #[.int .i64 lo,.int .i64 hi]):=hide (by
          have h:=HasC.new (((V6.setCell ⟨ps,0,none⟩ (.int .i64 lo)).setCell ⟨ps,1,none⟩ (.int .i64 hi)).alloc (.cells #[.int .i64 lo,.int .i64 hi] 103)) 103 #[.int .i64 lo,.int .i64 hi]
          try simp only[World.size_alloc,World.size_setCell] at h
          exact h)
         obtain⟨o0,o1,o2,o3,o4,o5⟩:=three_of HR5.out.O
         obtain⟨s0,s1,-,-⟩:=two_of HP5.out
         have zO:=HR5.out.O.lt
         go_wp2_with (at_builtin;go_loud (refine app_list (L:=S) rfl _ _ rfl rfl (HR5.out.S.alloc _) (by have:=HR5.out.bel.size;simp only[World.size_alloc] at this ⊢;omega) _ lo hi rfl HLt.out (by have:=HSl.out;omega) ?_;intro g2 cap2 V7 hown hgrow;have HR6:=hide (HR5.out.later (bel1 _ (.cells #[.int .i64 lo,.int .i64 hi] 103)));have hO7:=HR6.out.O.kept hgrow (fun e=>own_ne' HR6.out.S HR6.out.O (by decide) e.symm);have HR8:=hide (HR6.out.grow hown hgrow);have hN7:=(HN5.out.alloc (.cells #[.int .i64 lo,.int .i64 hi] 103)).kept hgrow (fun e=>own_ne' HR6.out.S (HN5.out.alloc (.cells #[.int .i64 lo,.int .i64 hi] 103)) (by decide) e.symm);have HN8:=hide (hN7.other (p:=⟨q,0,none⟩) (fun e=>by have h2:=hN7;rw[show p=q from e] at h2;have:=h2.symm.trans hO7;simp at this) (.slice (some ⟨g2,0,none⟩) (S.length+1) cap2));obtain⟨u0,-,-,u3,-,-⟩:=three_of hO7;clear hown hgrow hO7 hN7))
         obtain⟨V8,hV8⟩:∃ V8,V7.setCell ⟨q,0,none⟩ (.slice (some ⟨g2,0,none⟩) (S.length+1) cap2)=V8:=⟨_,rfl⟩
         rw[hV8] at HR8 HN8 ⊢
         clear hV8 o0 o1 o2 o3 o4 o5 s0 s1 u0 u3 HR5 HN5 HP5
         have w0:=cell_regrown (HR8.out.O.cell 1 rfl)
         have w1:=cell_regrown (HN8.out.cell 0 rfl)
         generalize hcz:coZ n.op=cz at *
         have HJC:=fun W=>hide (jcost_bel n.op W)
         rw[hcz] at HJC
         have HCZ:=hide hcz
         clear hcz
         have v1:IntKind.i64.wrap (co+cz)=co+cz:=by rw[IntKind.wrap_i64];omega
         refine Spn.wp_region_quiet_last_lit (hf:=(List.dropLast_concat_getLast (by simp)).symm) mixedJ (by kernel_rfl) rfl (by kernel_rfl) (by kernel_rfl) (by kernel_rfl) (by kernel_rfl) (by kernel_rfl) ?_
         simp only[List.dropLast_cons_cons,List.dropLast_singleton,List.getLast_cons_cons,List.getLast_singleton]
         repeat (go_big_quiet_step ((go_at_call 58;exact Calls.regrown_of (HJC _).out)))
         refine wpQuiet_nil ?_
         intro _ hw'
         obtain⟨pq,hw''⟩:=hw'
         subst hw''
         have HR9:=hide (HR8.out.later (below_regrown V8 pq.d pq.os))
         clear HR8 HN8 w0 w1
         generalize grow (redrawn V8 pq.d) pq.os=V9 at *
         obtain⟨o0,o1,o2,o3,o4,o5⟩:=three_of HR9.out.O
         have HRc:=hide (HR9.out.cost (co+cz))
         go_wp2_with fail
         obtain⟨Va,hVa⟩:∃ Va,V9.setCell ⟨q,1,none⟩ (.int .i64 (co+cz))=Va:=⟨_,rfl⟩
         rw[hVa] at HRc ⊢
         clear hVa o0 o1 o2 o3 o4 o5 HR9
         have g0:=HRc.out.G.cell i (inA_get _ i (by simp;omega))
         have hgx:(D++x::List.replicate (k-(i+1)) 0).getD i 0=x:=by rw[List.getD_eq_getElem?_getD,List.getElem?_append_right (by omega),hDl];simp
         rw[hgx] at g0
         have m2:=HRc.out.O.cell 2 rfl
         have HC3:=hide HC2.out
         have HM3:=hide (mx_snoc (x:=x) HM.out)
         have HGX:=hide hgx
         clear hgx
         by_cases hgt:mx < x
         ·have hgd:decide (mx < x)=true:=by simpa using hgt
          go_quiet (fail)
          have HRd:=hide (HRc.out.later (below_drewN Va nq))
          have HRe:=hide (HRd.out.depth (x))
          have g1:=HRd.out.G.cell i (inA_get _ i (by simp;omega))
          rw[HGX.out] at g1
          obtain⟨o0,o1,o2,o3,o4,o5⟩:=three_of HRd.out.O
          go_wp2_with fail
          go_roundw
          case rel=>exact⟨i+1,_,S++[(lo,hi)],D++[x],co+cz,x,by omega,by go_num,hide HS3.out,hide HD3.out,hide HC3.out,hide (by rw[HM3.out];omega),hide (by rw[List.append_assoc];exact HRe.out)⟩
          case measure=>simp[intOf];omega
         ·have hgd:decide (mx < x)=false:=by simpa using hgt
          go_quiet (fail)
          have HRd:=hide (HRc.out.later (below_drewN Va nq))
          go_wp2_with fail
          go_roundw
          case rel=>exact⟨i+1,_,S++[(lo,hi)],D++[x],co+cz,mx,by omega,by go_num,hide HS3.out,hide HD3.out,hide HC3.out,hide (by rw[HM3.out];omega),hide (by rw[List.append_assoc];exact HRd.out)⟩
          case measure=>simp[intOf];omega
        ·have HSf:=hide (HSe.out er her (by rw[HS2.out,if_neg her]))
         have HF4:Hid (ckE f d NM BS NS root=er):=hide (by rw[HF3.out,HSf.out,if_pos her])
         have hps8:ps≠W.heap.size+1+1:=by have:=HZ3.out;have:=HR7.out.hq;omega
         obtain⟨hp,hpb⟩:=put_three HR7.out.R HR7.out.bel (by omega) (.slice none 0 0) (.int .i64 0) (.int .i64 0)
         obtain⟨r0,r1,r2,r3,r4,r5⟩:=three_of HR7.out.R
         have zR:=HR7.out.R.lt
         have P0:=hide (hp.alloc (.cells #[.int .i64 lo,.int .i64 hi] 103))
         have PB:=hide (bel hpb (bel1 _ (.cells #[.int .i64 lo,.int .i64 hi] 103)))
         clear hp hpb HR7 HN7 HP7
         go_wp2_with fail
         have p0:=P0.out.cell 0 rfl
         have p1:=P0.out.cell 1 rfl
         have p2:=P0.out.cell 2 rfl
         exact bodyPost_ret (v:=.tuple #[.agg rep0,.int .i64 er]) (by simp[results,Tryz.results25,go_sem,p0,p1,p2]) rfl (.inl (by rw[HF4.out];exact⟨her,rfl,PB.out⟩))
     ·obtain rfl:i=k:=by omega
      have e:NS.take i=NS:=List.take_of_length_le (by rw[HLN.out];exact Nat.le_refl _)
      have hS':=HS.out
      have hD':=HD.out
      have hC':=HC.out
      rw[e] at hS' hD' hC'
      have hM':=HM.out
      rw[<-hD'] at hM'
      have HF4:Hid (ckE f d NM BS NS root=if 200 < co\/24 < mx then 14 else 0):=hide (by rw[HF3.out,hS',if_neg (by simp),hC',hM'])
      obtain⟨va,vc,rfl,hSp⟩:=Spn.Spans.of_owns HR.out.S rfl
      have hSl:S.length=i:=by have h1:=spR_len hS';have h2:=HLN.out;simp at h1;omega
      have HSl:=hide hSl
      have HSS:=hide hS'
      have HCC:=hide hC'
      have HMM:=hide hM'
      obtain⟨o0,o1,o2,-,-,-⟩:=three_of HR.out.O
      obtain⟨r0,r1,r2,r3,r4,r5⟩:=three_of HR.out.R
      obtain⟨hp,hpb⟩:=put_three HR.out.R HR.out.bel (by omega) (.slice none 0 0) (.int .i64 0) (.int .i64 0)
      obtain⟨hq',hqb⟩:=put_three HR.out.R HR.out.bel (by omega) (.slice va S.length vc) (.int .i64 co) (.int .i64 mx)
      have hos:=own_put3 HR.out.S HR.out.R (by decide) (.slice va S.length vc) (.int .i64 co) (.int .i64 mx)
      have P0:=hide hp
      have PB:=hide hpb
      have Q0:=hide hq'
      have QB:=hide hqb
      have QS:=hide hos
      have HBs:=hide fun(b:Nat) (hb:(Value.slice va S.length vc).ownBlock=some b)=>(HR.out.S.lt b hb).1
      clear hp hpb hq' hqb hos e hS' hD' hC' hM' hSp hSl HR
      by_cases b1:200 < co
      ·have HF5:Hid (ckE f d NM BS NS root=14):=hide (by rw[HF4.out,if_pos (.inl b1)])
       go_wp2_with fail
       have p0:=P0.out.cell 0 rfl
       have p1:=P0.out.cell 1 rfl
       have p2:=P0.out.cell 2 rfl
       exact bodyPost_ret (v:=.tuple #[.agg rep0,.int .i64 14]) (by simp[results,Tryz.results25,go_sem,p0,p1,p2]) rfl (.inl (by rw[HF5.out];exact⟨by decide,rfl,PB.out⟩))
      ·by_cases b2:24 < mx
       ·have HF5:Hid (ckE f d NM BS NS root=14):=hide (by rw[HF4.out,if_pos (.inr b2)])
        go_wp2_with fail
        have p0:=P0.out.cell 0 rfl
        have p1:=P0.out.cell 1 rfl
        have p2:=P0.out.cell 2 rfl
        exact bodyPost_ret (v:=.tuple #[.agg rep0,.int .i64 14]) (by simp[results,Tryz.results25,go_sem,p0,p1,p2]) rfl (.inl (by rw[HF5.out];exact⟨by decide,rfl,PB.out⟩))
       ·have HF5:Hid (ckE f d NM BS NS root=0):=hide (by rw[HF4.out,if_neg (by omega)])
        go_wp2_with fail
        have p0:=Q0.out.cell 0 rfl
        have p1:=Q0.out.cell 1 rfl
        have p2:=Q0.out.cell 2 rfl
        exact bodyPost_ret (v:=.tuple #[.agg #[.slice va S.length vc,.int .i64 co,.int .i64 mx],.int .i64 0]) (by simp[results,Tryz.results25,go_sem,p0,p1,p2]) rfl (.inr ⟨HF5.out,va,vc,by rw[HLN.out,HSl.out,HCC.out,HMM.out],by
         obtain⟨a',c',e',h'⟩:=Spn.Spans.of_owns QS.out rfl
         cases e'
         rw[HSS.out,HLN.out,<-HSl.out]
         exact h',QB.out,fun b off h=>HBs.out b (by rw[h];rfl)⟩)
end Go.Proofs.YtngnnijpdjhelaaGreat
