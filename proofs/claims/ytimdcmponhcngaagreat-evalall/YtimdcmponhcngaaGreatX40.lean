import Derived.Lib.ItoaNum
import Derived.Test.YtimdcmponhcngaaGreatX39
namespace Go.Proofs.YtimdcmponhcngaaGreat
open Go.RowKit Go.IntWalk Lx Pz
set_option linter.unusedVariables false
set_option maxRecDepth 100000
set_option maxHeartbeats 16000000
structure Bx (W V:World)(g:Nat)(kd tr wd:Array Value)(D:List Int):Prop where
 k:HasC V W.heap.size 23 kd
 t:HasC V (W.heap.size+1) 28 tr
 w:HasC V (W.heap.size+1+1) 30 wd
 c:HasC V g 3 (inA D)
 hg:W.heap.size+1+1 < g
 lo:Below W.heap.size W V
theorem Bx.below {W V V':World}{g:Nat}{kd tr wd:Array Value}{D:List Int}(h:Bx W V g kd tr wd D)(hb:Below V.heap.size V V'):Bx W V' g kd tr wd D :=
 ⟨h.k.below hb,h.t.below hb,h.w.below hb,h.c.below hb,h.hg,bel h.lo hb⟩
theorem Bx.put {W V:World}{g i:Nat}{kd tr wd:Array Value}{D Z:List Int}{q:Int}(h:Bx W V g kd tr wd (D++q::Z))(hk:D.length=i)(x:Int):Bx W (V.setCell ⟨g,i,none⟩ (.int .i64 x)) g kd tr wd (D++x::Z):=by
 have hg:=h.hg
 exact⟨h.k.other (p:=⟨g,i,none⟩) (by simp;omega) _,h.t.other (p:=⟨g,i,none⟩) (by simp;omega) _,h.w.other (p:=⟨g,i,none⟩) (by simp;omega) _,put_in h.c hk x,hg,h.lo.setCell (p:=⟨g,i,none⟩) (by simp;omega) _⟩
def AlP (w:World)(f d:Int)(v:Wd)(NM:List Txt)(BS:List Int)(NS:List Nd)(root:Int)(e:Ending)(W':World):Prop :=
 (evE f d v NM BS NS root≠0/\e=.returned (.tuple #[.slice none 0 0,.int .i64 (evE f d v NM BS NS root)])/\Below w.heap.size w W') \/
 (evE f d v NM BS NS root=0/\∃ g,e=.returned (.tuple #[.slice (some ⟨g,0,none⟩) NS.length NS.length,.int .i64 0])/\w.heap.size<=g/\HasC W' g 3 (inA (vaR f d v BS NS []))/\Below w.heap.size w W')
theorem num_lt {f d:Int}{v:Wd}{p:Knd.Plc}(hF:Fits f d v){q:Nat}(hq:Knd.numZ f d p=some q):q < v.ps.length:=by
 have h1:=Knd.blks_bound f d
 have h2:=look_lt _ _ _ (by omega) q hq
 have h3:=Knd.plcs_len f d
 have h4:=hF.2.1
 omega
theorem ck_num {f d:Int}{NM:List Txt}{BS:List Int}{NS:List Nd}{root:Int}(h:ckE f d NM BS NS root=0){n:Nd}(hn:n ∈ NS)(h3:n.op=3):∃ q,Knd.numZ f d (plOf n)=some q:=by
 unfold ckE at h
 split at h
 ·cases h
 split at h
 ·cases h
 split at h
 ·cases h
 rename_i h1
 cases hq:Knd.numZ f d (plOf n) with
 | some q=>exact⟨q,rfl⟩
 | none =>
  exfalso
  apply h1
  rw[List.any_eq_true]
  exact⟨n,hn,by unfold ahB;rw[hq,h3];rfl⟩
theorem ck_sound {f d:Int}{NM:List Txt}{BS:List Int}{NS:List Nd}{root:Int}(h:ckE f d NM BS NS root=0):chkP NM BS NS root=true:=by
 unfold ckE at h
 split at h
 ·cases h
 split at h
 ·cases h
 ·rename_i h1;simpa using h1
theorem getN_mem {NS:List Nd}{i:Nat}(h:i < NS.length):NS.getD i n0 ∈ NS:=by
 rw[List.getD_eq_getElem?_getD,List.getElem?_eq_getElem h];exact List.getElem_mem h
theorem opV_pre {BS D Z:List Int}{n:Nd}(hn:Wn BS D.length n):opV (D++Z) n=opV D n:=by
 unfold opV
 congr 2
 apply List.map_congr_left
 intro p hp
 exact getI_pre (hn.prt p hp).2
theorem vall_any (f d:Int)(v:Wd){W:World}{na ba da pa:Option Addr}{nl nc bl bc dl dc pl pc:Nat}{root:Int}{NM:List Txt}{BS:List Int}{NS:List Nd}(hX:Tx W na nl nc NM)(hB:Iz W ba bl bc BS)(hN:Nz W da dl dc NS)(hs:∀ s ∈ NM,s.length<=9223372036854775807)(hP:Knd.Ints W pa pl pc v.ps) :
  Calls Tryz.prog 10 #[.agg (kdA f d),.agg (tr4 (.slice na nl nc) (.slice ba bl bc) (.slice da dl dc) (.int .i64 root)),.agg (wdA v pa pl pc)] W (AlP W f d v NM BS NS root):=by
 have hb1:=bel1 W (.cells (kdA f d) 23)
 have hb2:=bel hb1 (bel1 (W.alloc (.cells (kdA f d) 23)) (.cells (tr4 (.slice na nl nc) (.slice ba bl bc) (.slice da dl dc) (.int .i64 root)) 28))
 have hb3:=bel hb2 (bel1 ((W.alloc (.cells (kdA f d) 23)).alloc (.cells (tr4 (.slice na nl nc) (.slice ba bl bc) (.slice da dl dc) (.int .i64 root)) 28)) (.cells (wdA v pa pl pc) 30))
 have HK0:=hide (((HasC.new W 23 (kdA f d)).alloc (.cells (tr4 (.slice na nl nc) (.slice ba bl bc) (.slice da dl dc) (.int .i64 root)) 28)).alloc (.cells (wdA v pa pl pc) 30))
 have HT0:Hid (HasC (((W.alloc (.cells (kdA f d) 23)).alloc (.cells (tr4 (.slice na nl nc) (.slice ba bl bc) (.slice da dl dc) (.int .i64 root)) 28)).alloc (.cells (wdA v pa pl pc) 30)) (W.heap.size+1) 28 (tr4 (.slice na nl nc) (.slice ba bl bc) (.slice da dl dc) (.int .i64 root))):=by
  have:=(HasC.new (W.alloc (.cells (kdA f d) 23)) 28 (tr4 (.slice na nl nc) (.slice ba bl bc) (.slice da dl dc) (.int .i64 root))).alloc (.cells (wdA v pa pl pc) 30)
  simp only[World.size_alloc] at this
  exact hide this
 have HW0:Hid (HasC (((W.alloc (.cells (kdA f d) 23)).alloc (.cells (tr4 (.slice na nl nc) (.slice ba bl bc) (.slice da dl dc) (.int .i64 root)) 28)).alloc (.cells (wdA v pa pl pc) 30)) (W.heap.size+1+1) 30 (wdA v pa pl pc)):=by
  have:=HasC.new ((W.alloc (.cells (kdA f d) 23)).alloc (.cells (tr4 (.slice na nl nc) (.slice ba bl bc) (.slice da dl dc) (.int .i64 root)) 28)) 30 (wdA v pa pl pc)
  simp only[World.size_alloc] at this
  exact hide this
 have HB0:=hide hb3
 have HCk:=hide (ccheck_any f d (root:=root) (hX.later hb3) (hB.later hb3) (hN.later hb3) hs)
 have HBI:=hide hB
 have HNI:=hide hN
 have HPI:=hide hP
 have HLN:=hide hN.len
 have HLB:=hide hB.len
 have HLP:=hide hP.len
 clear hb1 hb2 hb3 hX hB hN hP
 go_enter Tryz.func10,Tryz.ntmps10
 go_wp2_with fail
 refine HCk.out.mono ?_
 rintro e V1 (⟨he,rfl,hb⟩|⟨he,g,rfl,-,-,hb⟩)
 ·obtain⟨er,hZ⟩:∃ er,ckE f d NM BS NS root=er:=⟨_,rfl⟩
  have hev:evE f d v NM BS NS root=er:=by unfold evE;rw[if_neg he,hZ]
  rw[hZ] at he ⊢
  have HE:=hide he
  have HV:=hide hev
  have h1:(er != 0)=true:=by simpa using he
  have HB1:=hide (bel HB0.out hb)
  clear he hev hZ hb HB0 HCk HK0 HT0 HW0
  go_wp2_with fail
  exact bodyPost_ret (v:=.tuple #[.slice none 0 0,.int .i64 er]) (by simp[results,Tryz.results10,go_sem]) rfl (.inl (by rw[HV.out];exact⟨HE.out,rfl,bel HB1.out (bel1 _ _)⟩))
 ·have HE:=hide he
  have HB1:=hide (bel (bel HB0.out hb) (bel1 V1 (.cells #[.slice (some ⟨g,0,none⟩) NS.length NS.length,.int .i64 (coR NS),.int .i64 (mxR (dpR BS NS []))] 52)))
  have HK1:=hide ((HK0.out.below hb).alloc (.cells #[.slice (some ⟨g,0,none⟩) NS.length NS.length,.int .i64 (coR NS),.int .i64 (mxR (dpR BS NS []))] 52))
  have HT1:=hide ((HT0.out.below hb).alloc (.cells #[.slice (some ⟨g,0,none⟩) NS.length NS.length,.int .i64 (coR NS),.int .i64 (mxR (dpR BS NS []))] 52))
  have HW1:=hide ((HW0.out.below hb).alloc (.cells #[.slice (some ⟨g,0,none⟩) NS.length NS.length,.int .i64 (coR NS),.int .i64 (mxR (dpR BS NS []))] 52))
  have HF:=hide fun w h=>Knd.fits_any f d v.x v.y v.c pa pl pc v.ps w h
  obtain⟨k0,k1,-,-⟩:=two_of (HK0.out.below hb)
  obtain⟨w0,w1,w2,w3⟩:=four_of (HW0.out.below hb)
  have hz1:=(HW0.out.below hb).lt
  have hz0:=(HK0.out.below hb).lt
  clear hb he HB0 HCk HK0 HT0 HW0
  generalize coR NS=co at *
  generalize mxR (dpR BS NS [])=mx at *
  go_wp2_with fail
  refine(HF.out _ (HPI.out.later HB1.out)).mono ?_
  rintro e V2 ⟨rfl,hb⟩
  have HK2:=hide (HK1.out.below hb)
  have HT2:=hide (HT1.out.below hb)
  have HW2:=hide (HW1.out.below hb)
  have HB2:=hide (bel HB1.out hb)
  clear hb HK1 HT1 HW1 HB1 HF k0 k1 w0 w1 w2 w3 hz1 hz0
  have hev:evE f d v NM BS NS root=Knd.fitE f d v.x v.y v.c v.ps:=by unfold evE;rw[if_pos HE.out]
  have HV:=hide hev
  clear hev
  rcases fitE_cases f d v with⟨hF,h0⟩|⟨hF,h1⟩
  ·rw[h0]
   rw[h0] at HV
   obtain⟨es,ex,hD⟩:=chk_dec.1 (ck_sound HE.out)
   have HW:=hide hD.wl
   have hfew:=hD.few
   rw[HLN.out] at hfew
   have hmk:=make_in dl hfew
   have HNm:=hide fun(n:Nd) hn h3=>ck_num HE.out (n:=n) hn h3
   have HNl:=hide fun(p:Knd.Plc) q hq=>num_lt hF (p:=p) (q:=q) hq
   clear hD h0 hF HE
   obtain⟨t0,t1,t2,t3⟩:=four_of HT2.out
   have hzt:=HT2.out.lt
   have hzw:=HW2.out.lt
   have HBx:Hid (Bx W (V2.alloc (.cells (inA (List.replicate dl 0)) 3)) V2.heap.size (kdA f d) (tr4 (.slice na nl nc) (.slice ba bl bc) (.slice da dl dc) (.int .i64 root)) (wdA v pa pl pc) (List.replicate dl 0)) :=
    ⟨HK2.out.alloc _,HT2.out.alloc _,HW2.out.alloc _,HasC.new _ _ _,hzw,bel HB2.out (bel1 _ _)⟩
   have hgz:=HBx.out.hg
   clear HK2 HT2 HW2 HB2
   go_wp2_with fail
   generalize V2.heap.size=gv at *
   go_loopw [36] (fun i wr=>∃(k:Nat) (D:List Int),k<=dl/\i=.int .i64 k/\Hid (vaR f d v BS (NS.take k) []=D)/\Hid (Bx W wr gv (kdA f d) (tr4 (.slice na nl nc) (.slice ba bl bc) (.slice da dl dc) (.int .i64 root)) (wdA v pa pl pc) (D++List.replicate (dl-k) 0))) (fun i _=>dl-(intOf i).toNat)
   case atStart=>exact⟨0,[],Nat.zero_le _,rfl,hide rfl,HBx⟩
   case round =>
    obtain⟨k,D,hk,rfl,HD,HX⟩:=hrel
    rename World=>V
    clear t0 t1 t2 t3 hmk
    by_cases hlt:k < dl
    ·obtain⟨g,off,rfl,hat⟩:=(HNI.out.later HX.out.lo).at (by omega)
     obtain⟨e0,e1,e2,e3,e4,e5,e6,e7,e8⟩:=hat k hlt
     clear hat
     have hi0:(0:Int)<=k:=by omega
     have hi1:(k:Int) < dl:=by omega
     have hDl:D.length=k:=by rw[<-HD.out,vaR_len];simp;rw[HLN.out];omega
     have HDl:=hide hDl
     have HWn:=hide (wl_at HW.out (by rw[HLN.out];exact hlt:k < NS.length))
     rw[Nat.zero_add] at HWn
     have HD2:=hide (vaR_snoc f d v BS (NS.take k) (NS.getD k n0) [])
     rw[<-take_snoc n0 (by rw[HLN.out];exact hlt),HD.out] at HD2
     have hmem:=getN_mem (NS:=NS) (i:=k) (by rw[HLN.out];exact hlt)
     rw[repI_succ hlt] at HX
     have hz1:gv < V.heap.size:=HX.out.c.lt
     have y0:=HX.out.c.frozen k
     have da:=HX.out.c.cell k (inA_get _ k (by simp;omega))
     have HNk:=hide (HNm.out _ hmem)
     clear hmem
     generalize NS.getD k n0=n at *
     by_cases ho1:n.op=1
     ·have q1:(n.op==1)=true:=by simpa using ho1
      have hva:vaN f d v BS D n=n.k:=by unfold vaN;rw[if_neg (by omega),if_pos ho1]
      rw[hva] at HD2
      have HX2:=hide ((HX.out.put hDl n.k).below (bel1 _ (.cells (ndA n) 69)))
      clear hva ho1 HNk HWn hDl
      go_wp2_with fail
      go_roundw
      case rel=>exact⟨k+1,D++[n.k],by omega,by go_num,hide HD2.out,hide (by rw[List.append_assoc];exact HX2.out)⟩
      case measure=>simp[intOf];omega
     have q1:(n.op==1)=false:=by simpa using ho1
     by_cases ho2:n.op=2
     ·have q2:(n.op==2)=true:=by simpa using ho2
      have hva:vaN f d v BS D n=inpV f d v n.k:=by unfold vaN;rw[if_neg (by omega),if_neg ho1,if_pos ho2]
      rw[hva] at HD2
      have HI:=hide fun w=>vinput_any f d n.k v pa pl pc w
      generalize inpV f d v n.k=z at *
      have HX1:=hide (HX.out.below (bel1 V (.cells (ndA n) 69)))
      obtain⟨k0,k1,-,-⟩:=two_of HX.out.k
      obtain⟨w0,w1,w2,w3⟩:=four_of HX.out.w
      have hz2:=HX.out.k.lt
      have hz3:=HX.out.w.lt
      clear hva ho1 ho2 HNk HWn hDl y0 da
      go_wp2_with fail
      refine(HI.out _).mono ?_
      rintro e V3 ⟨rfl,hb⟩
      have HX3:=hide (HX1.out.below hb)
      have y0:=HX3.out.c.frozen k
      have da:=HX3.out.c.cell k (inA_get _ k (by have:=HDl.out;simp;omega))
      have HX2:=hide (HX3.out.put HDl.out z)
      clear hb HX1 HI k0 k1 w0 w1 w2 w3 hz2 hz3 e0 e1 e2 e3 e4 e5 e6 e7 e8
      go_wp2_with fail
      go_roundw
      case rel=>exact⟨k+1,D++[z],by omega,by go_num,hide HD2.out,hide (by rw[List.append_assoc];exact HX2.out)⟩
      case measure=>simp[intOf];omega
     have q2:(n.op==2)=false:=by simpa using ho2
     by_cases ho3:n.op=3
     ·have q3:(n.op==3)=true:=by simpa using ho3
      have hva:vaN f d v BS D n=smpV f d v n:=by unfold vaN;rw[if_neg (by omega),if_neg ho1,if_neg ho2,if_pos ho3]
      rw[hva] at HD2
      obtain⟨q,hq⟩:=HNk.out ho3
      have hql:=HNl.out _ q hq
      have HI:=hide (vsample_any f d n v (q:=q) ((HPI.out.later HX.out.lo).later (bel1 V (.cells (ndA n) 69))) HWn.out.wf hq (by rw[<-HLP.out];exact hql))
      generalize smpV f d v n=z at *
      have HX1:=hide (HX.out.below (bel1 V (.cells (ndA n) 69)))
      obtain⟨k0,k1,-,-⟩:=two_of HX.out.k
      obtain⟨w0,w1,w2,w3⟩:=four_of HX.out.w
      have hz2:=HX.out.k.lt
      have hz3:=HX.out.w.lt
      clear hva ho1 ho2 ho3 HNk HWn hDl y0 da hq hql
      go_wp2_with fail
      refine HI.out.mono ?_
      rintro e V3 ⟨rfl,hb⟩
      have HX3:=hide (HX1.out.below hb)
      have y0:=HX3.out.c.frozen k
      have da:=HX3.out.c.cell k (inA_get _ k (by have:=HDl.out;simp;omega))
      have HX2:=hide (HX3.out.put HDl.out z)
      clear hb HX1 HI k0 k1 w0 w1 w2 w3 hz2 hz3 e0 e1 e2 e3 e4 e5 e6 e7 e8
      go_wp2_with fail
      go_roundw
      case rel=>exact⟨k+1,D++[z],by omega,by go_num,hide HD2.out,hide (by rw[List.append_assoc];exact HX2.out)⟩
      case measure=>simp[intOf];omega
     have q3:(n.op==3)=false:=by simpa using ho3
     by_cases ho4:n.op=4
     ·have q4:(n.op==4)=true:=by simpa using ho4
      have hva:vaN f d v BS D n=D.getD (BS.getD n.k.toNat 0).toNat 0:=by unfold vaN;rw[if_pos ho4]
      rw[hva] at HD2
      obtain⟨u0,u1,u2,u3⟩:=HWn.out.use ho4
      obtain⟨kk,hkk⟩:∃ kk:Nat,n.k=(kk:Int):=⟨n.k.toNat,by omega⟩
      rw[hkk] at e4 u1 u2 u3 HD2
      simp only[Int.toNat_natCast] at u1 u2 u3 HD2
      obtain⟨bb,boff,rfl,hbb,hbc⟩:∃ b off,ba=some ⟨b,off,none⟩/\b < V.heap.size/\V.cell? ⟨b,off+kk,none⟩=some (.int .i64 (BS.getD kk 0)):=by
       rcases(HBI.out.later HX.out.lo).cell with h0|⟨b,off,ha,hlb,hc⟩
       ·rw[HLB.out] at u1;omega
       ·exact⟨b,off,ha,hlb,hc kk (by rw[<-HLB.out];exact u1)⟩
      obtain⟨q,hq⟩:∃ q:Nat,BS.getD kk 0=(q:Int):=⟨(BS.getD kk 0).toNat,by omega⟩
      rw[hq] at hbc u3 HD2
      simp only[Int.toNat_natCast] at u3 HD2
      have s0:=inA_get (D++0::List.replicate (dl-(k+1)) 0) q (by simp;omega)
      rw[getI_pre (by rw[hDl];exact u3)] at s0
      have d0:=HX.out.c.cell q s0
      generalize D.getD q 0=z at *
      have HX2:=hide ((HX.out.put hDl z).below (bel1 _ (.cells #[.int .i64 n.op,.int .i64 n.a,.int .i64 n.b,.int .i64 n.c,.int .i64 kk,.int .i64 n.back,.int .i64 n.co,.int .i64 n.x,.int .i64 n.y] 69)))
      have t1:=HX.out.t.cell 1 rfl
      have hz2:=HX.out.t.lt
      have w0:(kk:Int) < bl:=by have:=HLB.out;omega
      have w1:(q:Int) < dl:=by omega
      have w2:(0:Int)<=kk:=by omega
      have w3:(0:Int)<=q:=by omega
      clear s0 hq u0 u1 u2 u3 hva HNk HWn hDl ho1 ho2 ho3 ho4
      go_wp2_with fail
      go_roundw
      case rel=>exact⟨k+1,D++[z],by omega,by go_num,hide HD2.out,hide (by rw[List.append_assoc];exact HX2.out)⟩
      case measure=>simp[intOf];omega
     have q4:(n.op==4)=false:=by simpa using ho4
     have hva:vaN f d v BS D n=opV D n:=by unfold vaN;rw[if_neg ho4,if_neg ho1,if_neg ho2,if_neg ho3]
     rw[hva] at HD2
     have HX1:=hide (HX.out.below (bel1 V (.cells (ndA n) 69)))
     have hlen:(D++0::List.replicate (dl-(k+1)) 0).length=dl:=by simp;omega
     have HZ:=has_iz HX1.out.c (by rw[hlen];exact hfew)
     rw[hlen] at HZ
     have HI:=hide (vmade_any n HWn.out (by have:=HWn.out.lo;omega) HZ (by omega))
     rw[opV_pre (by rw[hDl];exact HWn.out)] at HI
     generalize opV D n=z at *
     clear HZ hlen hva ho1 ho2 ho3 ho4 HNk HWn hDl y0 da
     go_wp2_with fail
     refine HI.out.mono ?_
     rintro e V3 ⟨rfl,hb⟩
     have HX3:=hide (HX1.out.below hb)
     have y0:=HX3.out.c.frozen k
     have da:=HX3.out.c.cell k (inA_get _ k (by have:=HDl.out;simp;omega))
     have HX2:=hide (HX3.out.put HDl.out z)
     clear hb HX1 HI e0 e1 e2 e3 e4 e5 e6 e7 e8
     go_wp2_with fail
     go_roundw
     case rel=>exact⟨k+1,D++[z],by omega,by go_num,hide HD2.out,hide (by rw[List.append_assoc];exact HX2.out)⟩
     case measure=>simp[intOf];omega
    ·obtain rfl:k=dl:=by omega
     have e1:NS.take k=NS:=List.take_of_length_le (by rw[HLN.out];exact Nat.le_refl _)
     have hD:=HD.out
     rw[e1] at hD
     have HX2:=HX.out
     rw[Nat.sub_self,List.replicate_zero,List.append_nil] at HX2
     have HR:=hide hD
     clear hD e1
     go_wp2_with fail
     exact bodyPost_ret (v:=.tuple #[.slice (some ⟨gv,0,none⟩) k k,.int .i64 0]) (by simp[results,Tryz.results10,go_sem]) rfl (.inr ⟨HV.out,gv,by rw[HLN.out],by omega,by rw[HR.out];exact HX2.c,HX2.lo⟩)
  ·rw[h1]
   rw[h1] at HV
   clear h1 hF HE
   go_wp2_with fail
   exact bodyPost_ret (v:=.tuple #[.slice none 0 0,.int .i64 1]) (by simp[results,Tryz.results10,go_sem]) rfl (.inl (by rw[HV.out];exact⟨by decide,rfl,HB2.out⟩))
end Go.Proofs.YtimdcmponhcngaaGreat
namespace Go.Proofs.YtimdcmponhcngaaGreat
open Lx Pz
open Go.Lib (decDigits itoa)
set_option linter.unusedVariables false
set_option maxRecDepth 100000
set_option maxHeartbeats 16000000
theorem dec_small {u:Nat}(h:u < 10):decDigits u=[UInt8.ofNat (48+u)]:=by rw[decDigits,dif_pos h]
theorem dec_big {u:Nat}(h:¬u < 10):decDigits u=decDigits (u / 10)++[UInt8.ofNat (48+u % 10)]:=by rw[decDigits,dif_neg h]
theorem dg_nat {d:Nat}(h:d < 10):(UInt8.ofNat (48+d)).toNat=48+d:=UInt8.toNat_ofNat_of_lt (show 48+d < 256 by omega)
theorem dg_D {d:Nat}(h:d < 10):D (UInt8.ofNat (48+d))=true:=D_iff.2 (by rw[dg_nat h];omega)
theorem dec_ne (u:Nat):decDigits u≠[]:=by
 by_cases h:u < 10
 ·rw[dec_small h];simp
 ·rw[dec_big h];simp
theorem dec_all (u:Nat):(decDigits u).all D=true:=by
 induction u using Nat.strongRecOn with
 | _ u ih =>
  by_cases h:u < 10
  ·rw[dec_small h,List.all_cons,dg_D h];rfl
  ·rw[dec_big h,List.all_append,ih (u / 10) (by omega),List.all_cons,dg_D (by omega)];rfl
theorem dec_vl (u:Nat):vl (decDigits u)=u:=by
 induction u using Nat.strongRecOn with
 | _ u ih =>
  by_cases h:u < 10
  ·rw[dec_small h]
   simp only[vl,List.foldl_cons,List.foldl_nil,dg_nat h]
   omega
  ·rw[dec_big h,vl_snoc,ih (u / 10) (by omega),dg_nat (by omega)]
   omega
theorem dec_head (u:Nat)(h0:0 < u):(decDigits u).headD 0≠48:=by
 induction u using Nat.strongRecOn with
 | _ u ih =>
  by_cases h:u < 10
  ·rw[dec_small h]
   simp only[List.headD_cons]
   intro e
   have:=congrArg UInt8.toNat e
   rw[dg_nat h] at this
   simp at this
   omega
  ·rw[dec_big h]
   have h1:=ih (u / 10) (by omega) (by omega)
   cases hd:decDigits (u / 10) with
   | nil=>exact absurd hd (dec_ne _)
   | cons a l=>rw[hd] at h1;simpa using h1
theorem dec_num {u:Nat}(h:u<=2147483647):num (decDigits u)=true:=by
 refine num_yes (dec_ne u) (dec_all u) ?_ (by rw[dec_vl];omega)
 by_cases h0:u=0
 ·subst h0;rw[dec_small (by omega)];rfl
 ·have:=dec_head u (by omega)
  simp only[Bool.and_eq_false_iff,beq_eq_false_iff_ne]
  exact .inl this
def Fo (r:Txt):Prop:=∀ d,r.head?=some d->W d=false
def Tr (r:Txt):Prop:=True
theorem fo_cons {c:UInt8}(h:W c=false)(r:Txt):Fo (c::r):=fun d hd=>by simp at hd;subst hd;exact h
theorem W_D {d:UInt8}(h:W d=false):D d=false:=by
 cases hd:D d with
 | false=>rfl
 | true =>
  have:dg d.toNat=true:=hd
  simp[W,wi,this] at h
def AkP (P:Txt->Prop)(x:Txt)(ts:List Tk):Prop:=∀ r,P r->ak (x++r)=(ak r).map (ts++·)
theorem ak_piece {k:Int}{x r:Txt}{c:UInt8}{t:Txt}(hx:x=c::t)(h1:bl c=false)(h2:c≠35)(hk:kd (x++r)=k)(hz:sz (x++r)=x.length)(hm:may k x=true):ak (x++r)=(ak r).map ([ab ⟨k,x,0⟩]++·):=by
 subst hx
 have ht:((c::t)++r).take (c::t).length=c::t:=List.take_left
 have hd:((c::t)++r).drop (c::t).length=r:=List.drop_left
 have hg:gd ((c::t)++r)=true:=by unfold gd;rw[hk,hz,ht];exact hm
 rw[List.cons_append] at hg hk hz ht hd ⊢
 rw[ak_tok h1 h2 hg,hz,hk,ht,hd]
 rfl
theorem ak_wrd {x:Txt}(hw:wrd x=true):AkP Fo x [.word x]:=by
 intro r hr
 cases x with
 | nil=>simp[wrd] at hw
 | cons c t =>
  have hA:A c=true:=by simp[wrd] at hw;exact hw.1.2
  have hall:(c::t).all W=true:=by simp only[wrd,Bool.and_eq_true] at hw;exact hw.2
  have h3:=A_not hA
  refine ak_piece (k:=2) rfl h3.1 h3.2.1 ?_ ?_ hw
  ·simp[kd,hA,h3.2.2.1]
  ·simp only[sz,List.cons_append,List.headD_cons,hA,h3.2.2.1,if_true,Bool.false_eq_true,if_false]
   rw[<-List.cons_append,rn,takeWhile_app W _ _ hall hr]
theorem ak_dec {u:Nat}(h:u<=2147483647):AkP Fo (decDigits u) [.num u]:=by
 intro r hr
 have hn:=dec_num h
 have hv:=dec_vl u
 have hall:=dec_all u
 generalize decDigits u=x at *
 cases x with
 | nil=>simp[num] at hn
 | cons c t =>
  have hD:D c=true:=by simp at hall;exact hall.1
  have h3:=D_not hD
  have:=ak_piece (k:=1) (x:=c::t) (r:=r) rfl h3.1 h3.2 (by simp[kd,hD]) (by
   simp only[sz,List.cons_append,List.headD_cons,hD,if_true]
   rw[<-List.cons_append,rn,takeWhile_app D _ _ hall (fun a ha=>W_D (hr a ha))]) hn
  rw[this]
  simp only[ab,if_true,hv]
theorem ak_m (c:UInt8)(k:Tk)(hc:sh.contains c=true)(h60:c≠60)(h61:c≠61)(h62:c≠62)(h33:c≠33)(hk:mkT [c]=k):AkP Tr [c] [k]:=by
 intro r _
 rw[List.singleton_append,ak_mark hc h60 h61 h62 h33 r,hk]
 rfl
theorem ak_lp:AkP Tr [40] [.lp]:=ak_m 40 _ (by decide) (by decide) (by decide) (by decide) (by decide) (by decide)
theorem ak_rp:AkP Tr [41] [.rp]:=ak_m 41 _ (by decide) (by decide) (by decide) (by decide) (by decide) (by decide)
theorem ak_comma:AkP Tr [44] [.comma]:=ak_m 44 _ (by decide) (by decide) (by decide) (by decide) (by decide) (by decide)
theorem ak_minus:AkP Tr [45] [.op 5 9]:=ak_m 45 _ (by decide) (by decide) (by decide) (by decide) (by decide) (by decide)
end Go.Proofs.YtimdcmponhcngaaGreat
namespace Go.Proofs.YtimdcmponhcngaaGreat
open Go.RowKit Go.IntWalk Lx Pz
set_option linter.unusedVariables false
set_option maxRecDepth 100000
set_option maxHeartbeats 16000000
abbrev nodesOf (es:List E)(ex:E):List Nd:=flL es 0++ex.flat (szL es)
abbrev rootOf (es:List E)(ex:E):Int:=((szL es+ex.size:Nat):Int)-1
theorem dec_parse {l:List UInt8}{T:List Tok}{NM:List Txt}{es:List E}{ex:E}(hT:tks l=some T)(hg:GP [] [] (T.map ab) (NM,es,ex))(hl:NM.length=es.length)(hz:szL es+ex.size<=T.length) :
  Dec NM (bdL es 0) (nodesOf es ex) (rootOf es ex) es ex:=by
 have hok:(T.map ab).all okT=true:=by
  rw[List.all_map,List.all_eq_true]
  intro t ht
  exact okT_ab (tks_wf hT t ht)
 obtain⟨h1,h2,h3⟩:=gp_gd hg hok rfl (by intro j e h;simp at h) rfl
 have h4:=tks_len hT
 exact⟨rfl,rfl,hl,h1,h2,h3,by rw[List.length_append,flL_len,E.flat_len],by rw[List.length_append,flL_len,E.flat_len];omega⟩
theorem nm_short {NM:List Txt}(h:nmB NM=true):∀ s ∈ NM,s.length<=9223372036854775807:=by
 intro s hs
 simp only[nmB,Bool.and_eq_true,List.all_eq_true] at h
 have h1:=h.1 s hs
 have h2:wrd s=true:=h1.1
 simp only[wrd,Bool.and_eq_true,decide_eq_true_eq] at h2
 have:=h2.1.1.2
 omega
theorem parse_dec {s:ByteArray}{A:List Tk}{NM:List Txt}{es:List E}{ex:E}(ha:ak (bs s)=some A)(hl:s.size<=1024)(hg:GP [] [] A (NM,es,ex))(w:World) :
  Calls Tryz.prog 19 #[.string s] w fun e W'=>∃ na nc ba bc da dc,Dec NM (bdL es 0) (nodesOf es ex) (rootOf es ex) es ex /\
   e=.returned (.tuple #[.agg (tr4 (.slice na es.length nc) (.slice ba es.length bc) (.slice da (szL es+ex.size) dc) (.int .i64 (rootOf es ex))),.int .i64 0])/\Tx W' na es.length nc NM/\Iz W' ba es.length bc (bdL es 0) /\
   Nz W' da (szL es+ex.size) dc (nodesOf es ex)/\Below w.heap.size w W':=by
 obtain⟨T0,hT0,hab⟩:=tks_ak ha (by rw[bs_len];exact hl)
 refine(parse_read s w).mono ?_
 rintro e W1 (⟨-,-,hbad⟩|⟨T,NM',es',ex',na,nc,ba,bc,da,dc,hT,hA,h3,h4,rfl,h6,h7,h8,h9⟩)
 ·exfalso
  rw[hT0] at hbad
  rcases hbad with h|⟨T,h,h2⟩
  ·cases h
  ·cases h
   rw[hab] at h2
   have:=(h2 _).2 hg
   cases this
 ·have hd:=dec_parse hT ((hA _).1 rfl) h3 h4
  rw[hT0] at hT
  cases hT
  rw[hab] at hA
  have:=(hA _).2 hg
  cases this
  exact⟨na,nc,ba,bc,da,dc,hd,rfl,h6,h7,h8,h9⟩
end Go.Proofs.YtimdcmponhcngaaGreat
