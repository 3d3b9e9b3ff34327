import Derived.Test.YtimdcmponhcngaaGreatX47
namespace Go.Proofs.YtimdcmponhcngaaGreat
open Go.RowKit Go.IntWalk Lx Pz
set_option linter.unusedVariables false
set_option maxRecDepth 100000
set_option maxHeartbeats 16000000
def AwP (w:World)(f d:Int)(v:Wd)(NM:List Txt)(BS:List Int)(NS:List Nd)(root:Int)(e:Ending)(W':World):Prop :=
 (evE f d v NM BS NS root≠0/\e=.returned (.tuple #[.slice none 0 0,.int .i64 (evE f d v NM BS NS root)])/\Below w.heap.size w W') \/
 (evE f d v NM BS NS root=0/\∃ a cap,e=.returned (.tuple #[.slice a NS.length cap,.int .i64 0])/\Knd.Ints W' a NS.length cap (vaR f d v BS NS [])/\Below w.heap.size w W')
theorem wall_any (f d:Int)(v:Wd){W:World}{na ba da pa:Option Addr}{nl nc bl bc dl dc pl pc:Nat}{root:Int}{NM:List Txt}{BS:List Int}{NS:List Nd}(hX:Tx W na nl nc NM)(hB:Iz W ba bl bc BS)(hN:Nz W da dl dc NS)(hs:∀ s ∈ NM,s.length<=9223372036854775807)(hP:Knd.Ints W pa pl pc v.ps) :
  Calls Tryz.prog 12 #[.agg (kdA f d),.agg (tr4 (.slice na nl nc) (.slice ba bl bc) (.slice da dl dc) (.int .i64 root)),.agg (wdA v pa pl pc)] W (AwP W f d v NM BS NS root):=by
 have HQ0:=hide (Tq.new W (kdA f d) (tr4 (.slice na nl nc) (.slice ba bl bc) (.slice da dl dc) (.int .i64 root)) (wdA v pa pl pc))
 have HCk:=hide (jcheck_any f d (root:=root) (hX.later HQ0.out.lo) (hB.later HQ0.out.lo) (hN.later HQ0.out.lo) hs)
 have HBI:=hide hB
 have HNI:=hide hN
 have HPI:=hide hP
 have HLN:=hide hN.len
 have HLP:=hide hP.len
 have hdl:dl<=9223372036854775807:=by have:=hN.le;have:=hN.max;unfold maxLen at *;omega
 clear hX hB hN hP
 go_enter Tryz.func12,Tryz.ntmps12
 go_wp2_with fail
 refine HCk.out.mono ?_
 intro e V1 hck
 obtain⟨ga,gl,gc,co,mx,rfl,hb⟩:∃ ga gl gc co mx,e=.returned (.tuple #[.agg #[.slice ga gl gc,.int .i64 co,.int .i64 mx],.int .i64 (ckE f d NM BS NS root)])/\Below (((W.alloc (.cells (kdA f d) 23)).alloc (.cells (tr4 (.slice na nl nc) (.slice ba bl bc) (.slice da dl dc) (.int .i64 root)) 28)).alloc (.cells (wdA v pa pl pc) 30)).heap.size (((W.alloc (.cells (kdA f d) 23)).alloc (.cells (tr4 (.slice na nl nc) (.slice ba bl bc) (.slice da dl dc) (.int .i64 root)) 28)).alloc (.cells (wdA v pa pl pc) 30)) V1:=by
  rcases hck with⟨he,rfl,hb⟩|⟨he,a,cap,rfl,-,hb,-⟩
  ·exact⟨none,0,0,0,0,rfl,hb⟩
  ·exact⟨_,_,_,_,_,by rw[he],hb⟩
 clear hck HCk
 have HQ1:=hide (HQ0.out.below hb)
 have HQ2:=hide (HQ1.out.below (bel1 V1 (.cells #[.slice ga gl gc,.int .i64 co,.int .i64 mx] 52)))
 clear hb HQ0
 obtain⟨ce,hce⟩:∃ ce,ckE f d NM BS NS root=ce:=⟨_,rfl⟩
 rw[hce]
 by_cases h0:ce=0
 case neg =>
  have h1:(ce != 0)=true:=by simpa using h0
  have hev:evE f d v NM BS NS root=ce:=by unfold evE;rw[if_neg (by rw[hce];exact h0),hce]
  have HE:=hide h0
  have HV:=hide hev
  clear h0 hev hce
  go_wp2_with fail
  exact bodyPost_ret (v:=.tuple #[.slice none 0 0,.int .i64 ce]) (by simp[results,Tryz.results12,go_sem]) rfl (.inl (by rw[HV.out];exact⟨HE.out,rfl,HQ2.out.lo⟩))
 have HC0:Hid (ckE f d NM BS NS root=0):=hide (by rw[hce,h0])
 subst h0
 clear hce
 have HF:=hide fun w h=>Knd.rfits_any f d v.x v.y v.c pa pl pc v.ps w h
 obtain⟨k0,k1,-,-⟩:=two_of HQ1.out.k
 obtain⟨w0,w1,w2,w3⟩:=four_of HQ1.out.w
 have hz0:=HQ1.out.k.lt
 have hz1:=HQ1.out.w.lt
 go_wp2_with fail
 refine(HF.out _ (HPI.out.later HQ2.out.lo)).mono ?_
 rintro e V2 ⟨⟨fit,rfl,hfit⟩,hb⟩
 have HQ3:=hide (HQ2.out.below hb)
 clear hb HQ1 HQ2 HF k0 k1 w0 w1 w2 w3 hz0 hz1
 cases fit with
 | false =>
  have hF:¬Fits f d v:=fun h=>by have:=hfit.2 h;cases this
  have hev:evE f d v NM BS NS root=1:=by
   unfold evE;rw[if_pos HC0.out]
   rcases fitE_cases f d v with⟨h,-⟩|⟨-,h⟩
   ·exact absurd h hF
   ·exact h
  have HV:=hide hev
  clear hev hF hfit
  go_wp2_with fail
  exact bodyPost_ret (v:=.tuple #[.slice none 0 0,.int .i64 1]) (by simp[results,Tryz.results12,go_sem]) rfl (.inl (by rw[HV.out];exact⟨by decide,rfl,HQ3.out.lo⟩))
 | true =>
  have hF:Fits f d v:=hfit.1 rfl
  have HV:Hid (evE f d v NM BS NS root=0):=hide (evE_zero.2 ⟨HC0.out,hF⟩)
  obtain⟨es,ex,hD⟩:=chk_dec.1 (ck_sound HC0.out)
  have HW:=hide hD.wl
  have hfew:=hD.few
  rw[HLN.out] at hfew
  have HNm:=hide fun(n:Nd) hn h3=>by
   obtain⟨q,hq⟩:=ck_num HC0.out (n:=n) hn h3
   have:=num_lt hF hq
   rw[HLP.out] at this
   exact(⟨q,hq,this⟩:∃ q,Knd.numZ f d (plOf n)=some q/\q < pl)
  clear hD hF hfit HC0
  go_wp2_with fail
  go_loopw [10,11] (fun u i wr=>∃ k:Nat,k<=dl/\i=.int .i64 k/\Hid (Ls V2 wr u (vaR f d v BS (NS.take k) []))) (fun _ i _=>dl-(intOf i).toNat)
  case atStart=>exact⟨0,Nat.zero_le _,rfl,hide (Ls.start V2)⟩
  case round =>
   obtain⟨k,hk,rfl,HL⟩:=hrel
   rename World=>V
   have HQ:=hide (HQ3.out.below HL.out.bel)
   obtain⟨t0,t1,t2,t3⟩:=four_of HQ.out.t
   have hDl:(vaR f d v BS (NS.take k) []).length=k:=by rw[vaR_len];simp;rw[HLN.out];omega
   have HDl:=hide hDl
   by_cases hlt:k < dl
   ·obtain⟨va,vc,rfl,hZ⟩:=Iz.of_owns HL.out.a
    rw[hDl] at hZ HL ⊢
    have HWn:=hide (wl_at HW.out (by rw[HLN.out];exact hlt:k < NS.length))
    rw[Nat.zero_add] at HWn
    have HD2:=hide (vaR_snoc f d v BS (NS.take k) (NS.getD k n0) [])
    rw[<-take_snoc n0 (by rw[HLN.out];exact hlt)] at HD2
    have hmem:=getN_mem (NS:=NS) (i:=k) (by rw[HLN.out];exact hlt)
    have HVl:=hide (wvalue_any f d v (root:=root) (na:=na) (nl:=nl) (nc:=nc) (HBI.out.later HQ.out.lo) (HNI.out.later HQ.out.lo) (HPI.out.later HQ.out.lo) hZ hlt HWn.out (Nat.le_refl _) (HNm.out _ hmem))
    obtain⟨z,hz⟩:∃ z,vaN f d v BS (vaR f d v BS (NS.take k) []) (NS.getD k n0)=z:=⟨_,rfl⟩
    rw[hz] at HVl HD2
    obtain⟨k0,k1,-,-⟩:=two_of HQ.out.k
    obtain⟨w0,w1,w2,w3⟩:=four_of HQ.out.w
    have hi1:(k:Int) < dl:=by omega
    clear hmem hz hZ HWn hDl
    generalize vaR f d v BS (NS.take k) []=D at *
    go_wp2_with (first|(go_at_call 37;refine HVl.out.mono ?_;rintro e V4 ⟨rfl,hb⟩;have HL4:=hide (HL.out.later hb);clear hb)|(at_builtin;refine list_ls (w:=V2) (L:=D) rfl _ _ rfl rfl (HL4.out.alloc _) _ z rfl (HasC.new _ _ _) (by rw[HDl.out];omega) ?_;intro g2 cap2 w2' HE2;rw[HDl.out] at HE2 ⊢))
    go_roundw
    case rel=>exact⟨k+1,by omega,by go_num,hide (by rw[HD2.out];exact HE2)⟩
    case measure=>simp[intOf];omega
   ·obtain rfl:k=dl:=by omega
    have e1:NS.take k=NS:=List.take_of_length_le (by rw[HLN.out];exact Nat.le_refl _)
    have HL2:=HL.out
    rw[e1] at HL2
    obtain⟨va,vc,rfl,hZ,-⟩:=Knd.Ints.of_owns HL2.a
    rw[vaR_len,List.length_nil,Nat.zero_add] at hZ ⊢
    have HZ:=hide hZ
    clear hZ e1 hDl
    go_wp2_with fail
    exact bodyPost_ret (v:=.tuple #[.slice va NS.length vc,.int .i64 0]) (by simp[results,Tryz.results12,go_sem]) rfl (.inr ⟨HV.out,va,vc,rfl,HZ.out,HQ.out.lo⟩)
theorem weval_any (f d:Int)(v:Wd){W:World}{na ba da pa:Option Addr}{nl nc bl bc dl dc pl pc:Nat}{root:Int}{NM:List Txt}{BS:List Int}{NS:List Nd}(hX:Tx W na nl nc NM)(hB:Iz W ba bl bc BS)(hN:Nz W da dl dc NS)(hs:∀ s ∈ NM,s.length<=9223372036854775807)(hP:Knd.Ints W pa pl pc v.ps) :
  Calls Tryz.prog 13 #[.agg (kdA f d),.agg (tr4 (.slice na nl nc) (.slice ba bl bc) (.slice da dl dc) (.int .i64 root)),.agg (wdA v pa pl pc)] W fun e W' =>
   e=.returned (.tuple #[.int .i64 (evV f d v NM BS NS root),.int .i64 (evE f d v NM BS NS root)])/\Below W.heap.size W W':=by
 have HQ0:=hide (Tq.new W (kdA f d) (tr4 (.slice na nl nc) (.slice ba bl bc) (.slice da dl dc) (.int .i64 root)) (wdA v pa pl pc))
 have HA:=hide (wall_any f d v (root:=root) (hX.later HQ0.out.lo) (hB.later HQ0.out.lo) (hN.later HQ0.out.lo) hs (hP.later HQ0.out.lo))
 clear hX hB hN hP
 obtain⟨R,hR⟩:∃ R,evV f d v NM BS NS root=R:=⟨_,rfl⟩
 obtain⟨E,hE⟩:∃ E,evE f d v NM BS NS root=E:=⟨_,rfl⟩
 rw[hR,hE]
 have HR:=hide hR
 have HE:=hide hE
 clear hR hE
 go_enter Tryz.func13,Tryz.ntmps13
 go_wp2_with fail
 refine HA.out.mono ?_
 rintro e V1 (⟨he,rfl,hb⟩|⟨he,a,cap,rfl,hZ,hb⟩)
 ·rw[HE.out] at he ⊢
  have h1:(E != 0)=true:=by simpa using he
  have hz:R=0:=by rw[<-HR.out];unfold evV;rw[HE.out,if_neg he]
  subst hz
  have HB1:=hide (bel HQ0.out.lo hb)
  clear hb he HA HQ0
  go_wp2_with fail
  go_ret2
  exact⟨rfl,HB1.out⟩
 ·have h2:=HE.out
  rw[he] at h2
  subst h2
  have hs:=ck_sound (evE_zero.1 he).1
  obtain⟨r0,r1,r2⟩:=sound_root hs
  obtain⟨es,ex,hD⟩:=chk_dec.1 hs
  have hrt:=hD.root
  have hr:R=(vaR f d v BS NS []).getD root.toNat 0:=by rw[<-HR.out];unfold evV;rw[if_pos he]
  obtain⟨q,rfl⟩:∃ q:Nat,root=q:=⟨root.toNat,by omega⟩
  simp only[Int.toNat_natCast] at r1 hr
  obtain⟨b,off,rfl,hc⟩:∃ b off,a=some ⟨b,off,none⟩/\V1.cell? ⟨b,off+q,none⟩=some (.int .i64 R):=by
   rcases hZ.cell with h0|⟨b,off,ha,hc⟩
   ·omega
   ·exact⟨b,off,ha,by rw[hr];exact hc q r1⟩
  have hq:((NS.length:Nat):Int)-1=(q:Int):=by omega
  have HB1:=hide (bel HQ0.out.lo hb)
  have i0:(0:Int)<=q:=by omega
  have i1:(q:Int) < NS.length:=by omega
  have hwr:wrap64 ((NS.length:Int)-1)=(q:Int):=by rw[hq];exact wrap64_in _ ⟨by omega,by omega⟩
  clear hb he HA HQ0 hr hZ r0 r1 HE HR hrt hD hs
  generalize NS.length=m at *
  go_wp2_with fail
  go_ret2
  exact⟨rfl,HB1.out⟩
def awT:Txt:=[109,101,100,40,112,40,45,49,44,48,41,44,112,40,48,44,45,49,41,44,112,40,45,49,44,48,41,43,112,40,48,44,45,49,41,45,112,40,45,49,44,45,49,41,41]
def wMed:Txt:=[109,101,100]
abbrev plA:List Tk:=[.word wP,.lp,.op 5 9,.num 1,.comma,.num 0,.rp]
abbrev plB:List Tk:=[.word wP,.lp,.num 0,.comma,.op 5 9,.num 1,.rp]
abbrev plC:List Tk:=[.word wP,.lp,.op 5 9,.num 1,.comma,.op 5 9,.num 1,.rp]
def awK:List Tk:=.word wMed::.lp::(plA++.comma::(plB++.comma::(((plA++.op 5 8::plB)++.op 5 9::plC)++[.rp])))
def awE:E:=.tri 27 (.leaf (lf 3 0 0 2 (-1) 0)) (.leaf (lf 3 0 0 2 0 (-1))) (.bin 9 (.bin 8 (.leaf (lf 3 0 0 2 (-1) 0)) (.leaf (lf 3 0 0 2 0 (-1)))) (.leaf (lf 3 0 0 2 (-1) (-1))))
theorem aw_ak:ak awT=some awK:=by
 have d1:∀ d:Nat,d < 10->∀ r,Fo r->ak (UInt8.ofNat (48+d)::r)=(ak r).map ([.num d]++·):=fun d hd r hr=>by
  have:=ak_dec (u:=d) (by omega) r hr
  rwa[dec_small hd] at this
 have n1c:∀ r,ak (49::44::r)=(ak (44::r)).map ([.num 1]++·):=fun r=>d1 1 (by decide) _ (fo_cons (by decide) r)
 have n1r:∀ r,ak (49::41::r)=(ak (41::r)).map ([.num 1]++·):=fun r=>d1 1 (by decide) _ (fo_cons (by decide) r)
 have n0c:∀ r,ak (48::44::r)=(ak (44::r)).map ([.num 0]++·):=fun r=>d1 0 (by decide) _ (fo_cons (by decide) r)
 have n0r:∀ r,ak (48::41::r)=(ak (41::r)).map ([.num 0]++·):=fun r=>d1 0 (by decide) _ (fo_cons (by decide) r)
 have pl:∀ r,ak (112::40::r)=(ak (40::r)).map ([.word wP]++·):=fun r=>ak_wrd (x:=wP) (by decide) (40::r) (fo_cons (by decide) r)
 have md:∀ r,ak (109::101::100::40::r)=(ak (40::r)).map ([.word wMed]++·):=fun r=>ak_wrd (x:=wMed) (by decide) (40::r) (fo_cons (by decide) r)
 have lp:∀ r,ak (40::r)=(ak r).map ([.lp]++·):=fun r=>ak_lp r trivial
 have rp:∀ r,ak (41::r)=(ak r).map ([.rp]++·):=fun r=>ak_rp r trivial
 have cm:∀ r,ak (44::r)=(ak r).map ([.comma]++·):=fun r=>ak_comma r trivial
 have mi:∀ r,ak (45::r)=(ak r).map ([.op 5 9]++·):=fun r=>ak_minus r trivial
 have pp:∀ r,ak (43::r)=(ak r).map ([.op 5 8]++·):=fun r=>ak_m 43 _ (by decide) (by decide) (by decide) (by decide) (by decide) (by decide) r trivial
 unfold awT
 simp only[md,pl,n1c,n1r,n0c,n0r,lp,rp,cm,mi,pp,ak_nil,Option.map_some]
 rfl
theorem aw_gp:GP [] [] awK ([],[],awE):=by
 refine GP.last ?_
 have a8:G [] 8 plA (.leaf (lf 3 0 0 2 (-1) 0)):=G.place (s:=wP) (.inl rfl) rfl
 have b8:G [] 8 plB (.leaf (lf 3 0 0 2 0 (-1))):=G.place (s:=wP) (.inl rfl) rfl
 have c8:G [] 8 plC (.leaf (lf 3 0 0 2 (-1) (-1))):=G.place (s:=wP) (.inl rfl) rfl
 have s6:G [] 6 (plA++.op 5 8::plB) _:=G.bin (k:=5) (o:=8) (by omega) (G.ups a8 (by decide) (by decide)) (G.ups b8 (by decide) (by decide))
 have d6:G [] 6 ((plA++.op 5 8::plB)++.op 5 9::plC) _:=G.bin (k:=5) (o:=9) (by omega) s6 (G.ups c8 (by decide) (by decide))
 have m8:G [] 8 awK awE:=G.call3 (s:=wMed) (by decide) (G.ups a8 (by decide) (by decide)) (G.ups b8 (by decide) (by decide)) (G.ups d6 (by decide) (by decide))
 exact G.ups m8 (by omega) (by omega)
end Go.Proofs.YtimdcmponhcngaaGreat
namespace Go.Proofs.YtimdcmponhcngaaGreat
open Lx Pz
set_option linter.unusedVariables false
set_option maxRecDepth 100000
set_option maxHeartbeats 16000000
def w32 (a:Int):Prop:=-2147483648<=a/\a<=2147483647
theorem wd_of {a:Int}(h:w32 a):Spn.wd a=true:=Spn.wd_iff.2 h
theorem val_add {a b:Int}(ha:w32 a)(hb:w32 b)(h:w32 (a+b)):Spn.valZ 8 0 0 [a,b]=(a+b,0):=by
 have hm:Spn.mayB 8 0 0 [a,b]=true:=by simp[Spn.mayB,wd_of ha,wd_of hb];decide
 unfold Spn.valZ
 rw[if_pos hm]
 simp only[List.getD_cons_zero,List.getD_cons_succ]
 rw[show Spn.ex 8 0 0 a b (([]:List Int).getD 0 0)=(a+b,0) from rfl]
 simp[wd_of h]
theorem val_sub {a b:Int}(ha:w32 a)(hb:w32 b)(h:w32 (a-b)):Spn.valZ 9 0 0 [a,b]=(a-b,0):=by
 have hm:Spn.mayB 9 0 0 [a,b]=true:=by simp[Spn.mayB,wd_of ha,wd_of hb];decide
 unfold Spn.valZ
 rw[if_pos hm]
 simp only[List.getD_cons_zero,List.getD_cons_succ]
 rw[show Spn.ex 9 0 0 a b (([]:List Int).getD 0 0)=(a-b,0) from rfl]
 simp[wd_of h]
def medZ (a b c:Int):Int:=max (min a b) (min (max a b) c)
theorem val_med {a b c:Int}(ha:w32 a)(hb:w32 b)(hc:w32 c):Spn.valZ 27 0 0 [a,b,c]=(medZ a b c,0):=by
 have hm:Spn.mayB 27 0 0 [a,b,c]=true:=by simp[Spn.mayB,wd_of ha,wd_of hb,wd_of hc];decide
 have h:w32 (medZ a b c):=by unfold medZ w32 at *;omega
 unfold Spn.valZ
 rw[if_pos hm]
 simp only[List.getD_cons_zero,List.getD_cons_succ]
 rw[show Spn.ex 27 0 0 a b c=(medZ a b c,0) from rfl]
 simp[wd_of h]
theorem num_same {f d d':Int}(hm:Knd.May f d)(hm':Knd.May f d')(p:Knd.Plc):Knd.numZ f d p=Knd.numZ f d' p:=by
 unfold Knd.numZ;rw[plcs_same hm hm']
theorem may8:Knd.May 0 8:=by decide
theorem num_a {d:Int}(h:Knd.May 0 d):Knd.numZ 0 d ⟨0,2,-1,0⟩=some 16:=by rw[num_same h may8];decide +kernel
theorem num_b {d:Int}(h:Knd.May 0 d):Knd.numZ 0 d ⟨0,2,0,-1⟩=some 10:=by rw[num_same h may8];decide +kernel
theorem num_c {d:Int}(h:Knd.May 0 d):Knd.numZ 0 d ⟨0,2,-1,-1⟩=some 9:=by rw[num_same h may8];decide +kernel
theorem aw_ns:nodesOf [] awE=[lf 3 0 0 2 (-1) 0,lf 3 0 0 2 0 (-1),lf 3 0 0 2 (-1) 0,lf 3 0 0 2 0 (-1),⟨8,2,3,0,0,0,0,0,0⟩,lf 3 0 0 2 (-1) (-1),⟨9,4,5,0,0,0,0,0,0⟩,⟨27,0,1,6,0,0,0,0,0⟩]:=by decide +kernel
theorem aw_rt:rootOf [] awE=7:=by decide +kernel
theorem med_va {d:Int}(hm:Knd.May 0 d){L:List Int}{a b c:Int}(ha:L.getD 16 0=a)(hb:L.getD 10 0=b)(hc:L.getD 9 0=c)(ra:0<=a/\a<=65535)(rb:0<=b/\b<=65535)(rc:0<=c/\c<=65535) :
  (vaR 0 d ⟨0,0,0,L⟩ (bdL [] 0) (nodesOf [] awE) []).getD 7 0=medZ a b (a+b-c):=by
 have pa:∀ V,vaN 0 d ⟨0,0,0,L⟩ (bdL [] 0) V (lf 3 0 0 2 (-1) 0)=a:=fun V=>by
  rw[show vaN 0 d ⟨0,0,0,L⟩ (bdL [] 0) V (lf 3 0 0 2 (-1) 0)=L.getD ((Knd.numZ 0 d ⟨0,2,-1,0⟩).getD 0) 0 from rfl,num_a hm];exact ha
 have pb:∀ V,vaN 0 d ⟨0,0,0,L⟩ (bdL [] 0) V (lf 3 0 0 2 0 (-1))=b:=fun V=>by
  rw[show vaN 0 d ⟨0,0,0,L⟩ (bdL [] 0) V (lf 3 0 0 2 0 (-1))=L.getD ((Knd.numZ 0 d ⟨0,2,0,-1⟩).getD 0) 0 from rfl,num_b hm];exact hb
 have pc:∀ V,vaN 0 d ⟨0,0,0,L⟩ (bdL [] 0) V (lf 3 0 0 2 (-1) (-1))=c:=fun V=>by
  rw[show vaN 0 d ⟨0,0,0,L⟩ (bdL [] 0) V (lf 3 0 0 2 (-1) (-1))=L.getD ((Knd.numZ 0 d ⟨0,2,-1,-1⟩).getD 0) 0 from rfl,num_c hm];exact hc
 have p8:vaN 0 d ⟨0,0,0,L⟩ (bdL [] 0) [a,b,a,b] ⟨8,2,3,0,0,0,0,0,0⟩=a+b:=by
  rw[show vaN 0 d ⟨0,0,0,L⟩ (bdL [] 0) [a,b,a,b] ⟨8,2,3,0,0,0,0,0,0⟩=(Spn.valZ 8 0 0 [a,b]).1 from rfl,val_add (by unfold w32;omega) (by unfold w32;omega) (by unfold w32;omega)]
 have p9:vaN 0 d ⟨0,0,0,L⟩ (bdL [] 0) [a,b,a,b,a+b,c] ⟨9,4,5,0,0,0,0,0,0⟩=a+b-c:=by
  rw[show vaN 0 d ⟨0,0,0,L⟩ (bdL [] 0) [a,b,a,b,a+b,c] ⟨9,4,5,0,0,0,0,0,0⟩=(Spn.valZ 9 0 0 [a+b,c]).1 from rfl,val_sub (by unfold w32;omega) (by unfold w32;omega) (by unfold w32;omega)]
 have p27:vaN 0 d ⟨0,0,0,L⟩ (bdL [] 0) [a,b,a,b,a+b,c,a+b-c] ⟨27,0,1,6,0,0,0,0,0⟩=medZ a b (a+b-c):=by
  rw[show vaN 0 d ⟨0,0,0,L⟩ (bdL [] 0) [a,b,a,b,a+b,c,a+b-c] ⟨27,0,1,6,0,0,0,0,0⟩=(Spn.valZ 27 0 0 [a,b,a+b-c]).1 from rfl,val_med (by unfold w32;omega) (by unfold w32;omega) (by unfold w32;omega)]
 rw[aw_ns]
 simp only[vaR,List.nil_append,List.cons_append,pa,pb,pc,p8,p9,p27]
 rfl
theorem med_fits {d:Int}(hm:Knd.May 0 d){L:List Int}(hl:L.length=44)(h:∀ z ∈ L,0<=z/\z<=Knd.highZ 0 d):Fits 0 d ⟨0,0,0,L⟩:=by
 refine⟨⟨⟨⟨0,Knd.colZ 0-1,?_,Int.le_refl 0,show (0:Int)<=Knd.colZ 0-1 by decide⟩,⟨0,Knd.rowZ 0-1,?_,Int.le_refl 0,show (0:Int)<=Knd.rowZ 0-1 by decide⟩⟩,⟨0,3,?_,Int.le_refl 0,show (0:Int)<=3 by decide⟩⟩,?_,?_⟩
 ·unfold Knd.inZ;rw[if_neg (by simpa using hm)];rfl
 ·unfold Knd.inZ;rw[if_neg (by simpa using hm)];rfl
 ·unfold Knd.inZ;rw[if_neg (by simpa using hm)];rfl
 ·rw[(Knd.zs0 hm).2.2.2];show ((L.length:Nat):Int)=44;omega
 ·rw[(Knd.zs0 hm).1];exact h
theorem med_ck {d:Int}(hm:Knd.May 0 d):ckE 0 d [] (bdL [] 0) (nodesOf [] awE) (rootOf [] awE)=0:=by
 have h16:ckE 0 16 [] (bdL [] 0) (nodesOf [] awE) (rootOf [] awE)=0:=by decide +kernel
 obtain⟨es,ex,hD⟩:=chk_dec.1 (ck_sound h16)
 have:=ck_narrow (d':=d) hm (by have:=hm.2.2;exact this) hD.wl (by rw[aw_ns];decide) h16
 exact this.1
theorem med_ev {d:Int}(hm:Knd.May 0 d){L:List Int}(hl:L.length=44)(h:∀ z ∈ L,0<=z/\z<=Knd.highZ 0 d){a b c:Int}(ha:L.getD 16 0=a)(hb:L.getD 10 0=b)(hc:L.getD 9 0=c)(ra:0<=a/\a<=65535)(rb:0<=b/\b<=65535)(rc:0<=c/\c<=65535) :
  evE 0 d ⟨0,0,0,L⟩ [] (bdL [] 0) (nodesOf [] awE) (rootOf [] awE)=0/\evV 0 d ⟨0,0,0,L⟩ [] (bdL [] 0) (nodesOf [] awE) (rootOf [] awE)=medZ a b (a+b-c):=by
 have h0:=evE_zero.2 ⟨med_ck hm,med_fits hm hl h⟩
 refine⟨h0,?_⟩
 unfold evV
 rw[if_pos h0,aw_rt]
 exact med_va hm ha hb hc ra rb rc
end Go.Proofs.YtimdcmponhcngaaGreat
namespace Go.Proofs.YtimdcmponhcngaaGreat
open Go.RowKit Go.IntWalk Lx Pz
set_option linter.unusedVariables false
set_option maxRecDepth 100000
set_option maxHeartbeats 16000000
theorem Ls.set {w W:World}{g n cap:Nat}{L:List Int}(h:Ls w W (.slice (some ⟨g,0,none⟩) n cap) L)(hn:L.length=n)(j:Nat)(x:Int):Ls w (W.setCell ⟨g,j,none⟩ (.int .i64 x)) (.slice (some ⟨g,0,none⟩) n cap) (L.set j x):=by
 have h1:=h.a
 rw[hn] at h1
 have h2:=(World.ownsRow.stored h1 j (.int .i64 x)).1
 have hg:=(h.a.lt g rfl).1
 refine⟨?_,h.bel.setCell (p:=⟨g,j,none⟩) hg _⟩
 rw[List.length_set,hn]
 have e:(in64 L).set j (.int .i64 x)=in64 (L.set j x):=by simp[in64]
 rw[<-e]
 exact h2
theorem Ls.ints {w W:World}{g n cap:Nat}{L:List Int}(h:Ls w W (.slice (some ⟨g,0,none⟩) n cap) L)(hn:L.length=n):Knd.Ints W (some ⟨g,0,none⟩) n cap L:=by
 have h1:=h.a
 rw[hn] at h1
 obtain⟨a,c,e,hi,-⟩:=Knd.Ints.of_owns h1
 cases e
 exact hi
theorem Ls.form {w W:World}{v:Value}{L:List Int}(h:Ls w W v L)(hn:0 < L.length):∃ g cap,v=.slice (some ⟨g,0,none⟩) L.length cap/\w.heap.size<=g:=by
 rcases own_forms h.a with⟨-,h0⟩|⟨g,c,e⟩
 ·omega
 ·subst e;exact⟨g,c,rfl,(h.a.lt g rfl).1⟩
def awL:List Int:=((List.replicate 44 10).set 16 7).set 10 30
theorem awL_ok:awL.length=44/\awL.getD 16 0=7/\awL.getD 10 0=30/\awL.getD 9 0=10/\∀ z ∈ awL,0<=z/\z<=Knd.highZ 0 8:=by decide +kernel
theorem vawake_any (W:World):Calls Tryz.prog 14 #[] W fun e w'=>e=.returned (.bool true)/\Below W.heap.size W w':=by
 obtain⟨a0,a1,a2,a3,a4⟩:=awL_ok
 obtain⟨e0,e1⟩:=med_ev may8 a0 a4 a1 a2 a3 (by decide) (by decide) (by decide)
 have HF:=hide (flat_any 0 8 10 (m:=44) (by decide +kernel) (W.alloc (.cells (kdA 0 8) 23)))
 have HRn:=hide fun(V:World) (pa:Option Addr) (pc:Nat) (h:Knd.Ints V pa 44 pc awL)=>run_dec 0 8 ⟨0,0,0,awL⟩ (s:=sB awT) (by rw[bs_sB];exact aw_ak) (by decide) aw_gp h
 rw[e0,e1,show medZ 7 30 (7+30-10)=27 by decide] at HRn
 have HB0:=hide (bel1 W (.cells (kdA 0 8) 23))
 have HK0:=hide (HasC.new W 23 (kdA 0 8))
 clear a0 a1 a2 a3 a4 e0 e1
 go_enter Tryz.func14,Tryz.ntmps14
 go_wp2_with fail
 refine HF.out.mono ?_
 rintro e V1 ⟨v,rfl,hL⟩
 obtain⟨g,cap,rfl,hg⟩:=hL.form (by simp)
 rw[List.length_replicate] at hL ⊢
 have hb:=hL.bel
 have hgk:W.heap.size < g:=by rw[World.size_alloc] at hg;exact hg
 have HL1:=hide ((((hL.set (by simp) 16 7).set (by simp) 10 30).alloc (.cells (wd0 (.slice (some ⟨g,0,none⟩) 44 cap)) 30)).drew)
 have HK1:=hide (((((HK0.out.below hb).other (p:=⟨g,16,none⟩) (by simp;omega) (.int .i64 7)).other (p:=⟨g,10,none⟩) (by simp;omega) (.int .i64 30)).alloc (.cells (wd0 (.slice (some ⟨g,0,none⟩) 44 cap)) 30)).below (below_drew _))
 have HW1:=hide ((HasC.new ((V1.setCell ⟨g,16,none⟩ (.int .i64 7)).setCell ⟨g,10,none⟩ (.int .i64 30)) 30 (wd0 (.slice (some ⟨g,0,none⟩) 44 cap))).below (below_drew _))
 simp only[World.size_setCell] at HW1
 have hgl:=(hL.a.lt g rfl).2
 have z1:=World.ownsRow.frozenAt hL.a 16
 have z2:=World.ownsRow.frozenAt hL.a 10
 have c1:=World.ownsRow.cellAt hL.a 16 (by decide)
 have c2:=World.ownsRow.cellAt hL.a 10 (by decide)
 rw[show (in64 (List.replicate 44 10))[16]?=some (.int .i64 10) from rfl] at c1
 rw[show (in64 (List.replicate 44 10))[10]?=some (.int .i64 10) from rfl] at c2
 have hk:=(HK0.out.below hb).lt
 clear hb hL HK0 HF hgk
 go_wp2_with fail
 go_region
 all_goals
  obtain⟨V3,hV3⟩:∃ V3,(((V1.setCell ⟨g,16,none⟩ (.int .i64 7)).setCell ⟨g,10,none⟩ (.int .i64 30)).alloc (.cells (wd0 (.slice (some ⟨g,0,none⟩) 44 cap)) 30)).drew=V3:=⟨_,rfl⟩
  rw[hV3] at HL1 HK1 HW1 ⊢
  have HI:=HL1.out.ints rfl
  have HR:=hide (HRn.out _ _ _ HI)
  have HB3:=hide (bel HB0.out HL1.out.bel)
  obtain⟨k0,k1,-,-⟩:=two_of HK1.out
  obtain⟨w0,w1,w2,w3⟩:=four_of HW1.out
  clear hV3 HI HRn HL1 z1 z2 c1 c2
  go_wp2_with fail
  refine HR.out.mono ?_
  rintro e V4 ⟨rfl,hb4⟩
  have HB4:=hide (bel HB3.out hb4)
  clear hb4 HB3 HR
  go_wp2_with fail
  go_ret
  exact⟨rfl,HB4.out⟩
end Go.Proofs.YtimdcmponhcngaaGreat
