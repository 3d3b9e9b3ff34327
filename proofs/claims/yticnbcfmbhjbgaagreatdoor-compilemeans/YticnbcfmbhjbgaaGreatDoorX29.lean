import Derived.Test.YticnbcfmbhjbgaaGreatDoorX28
set_option maxRecDepth 100000
set_option maxHeartbeats 32000000
set_option linter.unusedVariables false
namespace Go.Proofs.YticnbcfmbhjbgaaGreatDoor
section
open Go.RowKit Go.IntWalk Lx Pz
variable {W:World} {BS D:List Int} {d f root:Int}
structure Bx (W V:World)(g:Nat)(kd tr wd:Array Value)(D:List Int):Prop where
 k:aB V W.heap.size 23 kd
 t:aB V (W.heap.size+1) 50 tr
 w:aB V (W.heap.size+1+1) 26 wd
 c:aB V g 3 (yZ D)
 hg:W.heap.size+1+1 < g
 lo:Below W.heap.size W V
theorem Bx.below {W V V':World}{g:Nat}{kd tr wd:Array Value}{D:List Int}(h:Bx W V g kd tr wd D)(hb:Below V.heap.size V V'):Bx W V' g kd tr wd D :=
 ⟨h.k.below hb,h.t.below hb,h.w.below hb,h.c.below hb,h.hg,bel h.lo hb⟩
theorem Bx.put {V:World}{g i:Nat}{kd tr wd:Array Value}{Z:List Int}{q:Int}(h:Bx W V g kd tr wd (D++q::Z))(hk:D.length=i)(x:Int):Bx W (V.setCell ⟨g,i,none⟩ (.i x)) g kd tr wd (D++x::Z):=by
 have hg:=h.hg
 exact⟨h.k.other (p:=⟨g,i,none⟩) (by simp;omega) _,h.t.other (p:=⟨g,i,none⟩) (by simp;omega) _,h.w.other (p:=⟨g,i,none⟩) (by simp;omega) _,aDj h.c hk x,hg,h.lo.setCell (p:=⟨g,i,none⟩) (by simp;omega) _⟩
def AlP (w:World)(f d:Int)(v:Wd)(NM:List aM)(BS:List Int)(NS:List Nd)(root:Int)(e:Ending)(W':World):Prop :=
 (evE f d v NM BS NS root≠0/\e=.returned (.tuple #[.slice none 0 0,.i (evE f d v NM BS NS root)])/\Below w.heap.size w W') \/
 (evE f d v NM BS NS root=0/\∃ g,e=.returned (.tuple #[.slice (some ⟨g,0,none⟩) NS.length NS.length,.i 0])/\w.heap.size<=g/\aB W' g 3 (yZ (vaR f d v BS NS []))/\Below w.heap.size w W')
theorem aPf {v:Wd}{p:Knd.Plc}(hF:Fits f d v){q:Nat}(hq:Knd.mP f d p=some q):q < v.ps.length:=by
 have h1:=Knd.kY f d
 have h2:=aC0 _ _ _ (by omega) q hq
 have h3:=Knd.aFq f d
 have h4:=hF.2.1
 omega
theorem xZ {NM:List aM}{NS:List Nd}(h:jZ f d NM BS NS root=0){n:Nd}(hn:n ∈ NS)(h3:n.op=3):∃ q,Knd.mP f d (jX n)=some q:=by
 unfold jZ at h
 split at h
 ·cases h
 split at h
 ·cases h
 split at h
 ·cases h
 rename_i h1
 cases hq:Knd.mP f d (jX n) with
 | some q=>exact⟨q,rfl⟩
 | none =>
  exfalso
  apply h1
  rw[List.any_eq_true]
  exact⟨n,hn,by unfold ahB;rw[hq,h3];rfl⟩
theorem nC {NM:List aM}{NS:List Nd}(h:jZ f d NM BS NS root=0):pO NM BS NS root=true:=by
 unfold jZ at h
 split at h
 ·cases h
 split at h
 ·cases h
 ·rename_i h1;simpa using h1
theorem aN4 {NS:List Nd}{i:Nat}(h:i < NS.length):NS.getD i n0 ∈ NS:=by
 rw[gdE,gEg h];exact List.getElem_mem h
theorem aUc {Z:List Int}{n:Nd}(hn:Wn BS D.length n):opV (D++Z) n=opV D n:=by
 unfold opV
 congr 2
 apply List.map_congr_left
 intro p hp
 exact lF (hn.prt p hp).2
theorem aRh (f d:Int)(v:Wd){na ba da pa:Option Addr}{nl nc bl bc dl dc pl pc:Nat}{NM:List aM}{NS:List Nd}(hX:Tx W na nl nc NM)(hB:Iz W ba bl bc BS)(hN:Nz W da dl dc NS)(hs:∀ s ∈ NM,s.length<=9223372036854775807)(hP:Knd.Ints W pa pl pc v.ps) :
  Calls Tryz.prog 59 #[.agg (dB f d),.agg (eY (.slice na nl nc) (.slice ba bl bc) (.slice da dl dc) (.i root)),.agg (dQ v pa pl pc)] W (AlP W f d v NM BS NS root):=by
 have hb1:=aD W (.cells (dB f d) 23)
 have hb2:=bel hb1 (aD (W.alloc (.cells (dB f d) 23)) (.cells (eY (.slice na nl nc) (.slice ba bl bc) (.slice da dl dc) (.i root)) 50))
 have hb3:=bel hb2 (aD ((W.alloc (.cells (dB f d) 23)).alloc (.cells (eY (.slice na nl nc) (.slice ba bl bc) (.slice da dl dc) (.i root)) 50)) (.cells (dQ v pa pl pc) 26))
 have HK0:=aA (((aB.new W 23 (dB f d)).alloc (.cells (eY (.slice na nl nc) (.slice ba bl bc) (.slice da dl dc) (.i root)) 50)).alloc (.cells (dQ v pa pl pc) 26))
 have HT0:Hid (aB (((W.alloc (.cells (dB f d) 23)).alloc (.cells (eY (.slice na nl nc) (.slice ba bl bc) (.slice da dl dc) (.i root)) 50)).alloc (.cells (dQ v pa pl pc) 26)) (W.heap.size+1) 50 (eY (.slice na nl nc) (.slice ba bl bc) (.slice da dl dc) (.i root))):=by
  have:=(aB.new (W.alloc (.cells (dB f d) 23)) 50 (eY (.slice na nl nc) (.slice ba bl bc) (.slice da dl dc) (.i root))).alloc (.cells (dQ v pa pl pc) 26)
  simp only[wSa] at this
  exact aA this
 have HW0:Hid (aB (((W.alloc (.cells (dB f d) 23)).alloc (.cells (eY (.slice na nl nc) (.slice ba bl bc) (.slice da dl dc) (.i root)) 50)).alloc (.cells (dQ v pa pl pc) 26)) (W.heap.size+1+1) 26 (dQ v pa pl pc)):=by
  have:=aB.new ((W.alloc (.cells (dB f d) 23)).alloc (.cells (eY (.slice na nl nc) (.slice ba bl bc) (.slice da dl dc) (.i root)) 50)) 26 (dQ v pa pl pc)
  simp only[wSa] at this
  exact aA this
 have HB0:=aA hb3
 have HCk:=aA (gF f d (root:=root) (hX.later hb3) (hB.later hb3) (hN.later hb3) hs)
 have HBI:=aA hB
 have HNI:=aA hN
 have HPI:=aA hP
 have HLN:=aA hN.len
 have HLB:=aA hB.len
 have HLP:=aA hP.len
 clear hb1 hb2 hb3 hX hB hN hP
 go_enter Tryz.func59,Tryz.ntmps59
 go_wp2_with fail
 refine HCk.o.mono ?_
 rintro e V1 (⟨he,rfl,hb⟩|⟨he,g,rfl,-,-,hb⟩)
 ·obtain⟨er,hZ⟩:∃ er,jZ f d NM BS NS root=er:=⟨_,rfl⟩
  have hev:evE f d v NM BS NS root=er:=by unfold evE;rw[if_neg he,hZ]
  rw[hZ] at he ⊢
  have HE:=aA he
  have HV:=aA hev
  have h1:(er != 0)=true:=by simpa using he
  have HB1:=aA (bel HB0.o hb)
  clear he hev hZ hb HB0 HCk HK0 HT0 HW0
  go_wp2_with fail
  exact bPr (v:=.tuple #[.slice none 0 0,.i er]) (by simp[results,Tryz.results59,go_sem]) rfl (.inl (by rw[HV.o];exact⟨HE.o,rfl,bel HB1.o (aD _ _)⟩))
 ·have HE:=aA he
  have HB1:=aA (bel (bel HB0.o hb) (aD V1 (.cells #[.slice (some ⟨g,0,none⟩) NS.length NS.length,.i (oW NS),.i (mxR (rY BS NS []))] 55)))
  have HK1:=aA ((HK0.o.below hb).alloc (.cells #[.slice (some ⟨g,0,none⟩) NS.length NS.length,.i (oW NS),.i (mxR (rY BS NS []))] 55))
  have HT1:=aA ((HT0.o.below hb).alloc (.cells #[.slice (some ⟨g,0,none⟩) NS.length NS.length,.i (oW NS),.i (mxR (rY BS NS []))] 55))
  have HW1:=aA ((HW0.o.below hb).alloc (.cells #[.slice (some ⟨g,0,none⟩) NS.length NS.length,.i (oW NS),.i (mxR (rY BS NS []))] 55))
  have HF:=aA fun w h=>Knd.yM f d v.x v.y v.c pa pl pc v.ps w h
  obtain⟨k0,k1,-,-⟩:=aP (HK0.o.below hb)
  obtain⟨w0,w1,w2,w3⟩:=aC (HW0.o.below hb)
  have hz1:=(HW0.o.below hb).lt
  have hz0:=(HK0.o.below hb).lt
  clear hb he HB0 HCk HK0 HT0 HW0
  generalize oW NS=co at *
  generalize mxR (rY BS NS [])=mx at *
  go_wp2_with fail
  refine(HF.o _ (HPI.o.later HB1.o)).mono ?_
  rintro e V2 ⟨rfl,hb⟩
  have HK2:=aA (HK1.o.below hb)
  have HT2:=aA (HT1.o.below hb)
  have HW2:=aA (HW1.o.below hb)
  have HB2:=aA (bel HB1.o hb)
  clear hb HK1 HT1 HW1 HB1 HF k0 k1 w0 w1 w2 w3 hz1 hz0
  have hev:evE f d v NM BS NS root=Knd.aEu f d v.x v.y v.c v.ps:=by unfold evE;rw[if_pos HE.o]
  have HV:=aA hev
  clear hev
  rcases dX f d v with⟨hF,h0⟩|⟨hF,h1⟩
  ·rw[h0]
   rw[h0] at HV
   obtain⟨es,ex,hD⟩:=iK.1 (nC HE.o)
   have HW:=aA hD.wl
   have hfew:=hD.few
   rw[HLN.o] at hfew
   have hmk:=uK dl hfew
   have HNm:=aA fun(n:Nd) hn h3=>xZ HE.o (n:=n) hn h3
   have HNl:=aA fun(p:Knd.Plc) q hq=>aPf hF (p:=p) (q:=q) hq
   clear hD h0 hF HE
   obtain⟨t0,t1,t2,t3⟩:=aC HT2.o
   have hzt:=HT2.o.lt
   have hzw:=HW2.o.lt
   have HBx:Hid (Bx W (V2.alloc (.cells (yZ (List.replicate dl 0)) 3)) V2.heap.size (dB f d) (eY (.slice na nl nc) (.slice ba bl bc) (.slice da dl dc) (.i root)) (dQ v pa pl pc) (List.replicate dl 0)) :=
    ⟨HK2.o.alloc _,HT2.o.alloc _,HW2.o.alloc _,aB.new _ _ _,hzw,bel HB2.o (aD _ _)⟩
   have hgz:=HBx.o.hg
   clear HK2 HT2 HW2 HB2
   go_wp2_with fail
   generalize V2.heap.size=gv at *
   go_loopw [36] (fun i wr=>∃(k:Nat) (D:List Int),k<=dl/\i=.i k/\Hid (vaR f d v BS (NS.take k) []=D)/\Hid (Bx W wr gv (dB f d) (eY (.slice na nl nc) (.slice ba bl bc) (.slice da dl dc) (.i root)) (dQ v pa pl pc) (D++List.replicate (dl-k) 0))) (fun i _=>dl-(intOf i).toNat)
   case atStart=>exact⟨0,[],nZl _,rfl,aA rfl,HBx⟩
   case round =>
    obtain⟨k,D,hk,rfl,HD,HX⟩:=hrel
    rename World=>V
    clear t0 t1 t2 t3 hmk
    by_cases hlt:k < dl
    ·obtain⟨g,off,rfl,hat⟩:=(HNI.o.later HX.o.lo).at (by omega)
     obtain⟨e0,e1,e2,e3,e4,e5,e6,e7,e8⟩:=hat k hlt
     clear hat
     have hi0:(0:Int)<=k:=by omega
     have hi1:(k:Int) < dl:=by omega
     have hDl:D.length=k:=by rw[<-HD.o,aD8];simp;rw[HLN.o];omega
     have HDl:=aA hDl
     have HWn:=aA (aB2 HW.o (by rw[HLN.o];exact hlt:k < NS.length))
     rw[nZa] at HWn
     have HD2:=aA (aRg f d v BS (NS.take k) (NS.getD k n0) [])
     rw[<-aG n0 (by rw[HLN.o];exact hlt),HD.o] at HD2
     have hmem:=aN4 (NS:=NS) (i:=k) (by rw[HLN.o];exact hlt)
     rw[vO hlt] at HX
     have hz1:gv < V.heap.size:=HX.o.c.lt
     have y0:=HX.o.c.frozen k
     have da:=HX.o.c.cell k (fF _ k (by simp;omega))
     have HNk:=aA (HNm.o _ hmem)
     clear hmem
     generalize NS.getD k n0=n at *
     by_cases ho1:n.op=1
     ·have q1:(n.op==1)=true:=by simpa using ho1
      have hva:vaN f d v BS D n=n.k:=by unfold vaN;rw[if_neg (by omega),if_pos ho1]
      rw[hva] at HD2
      have HX2:=aA ((HX.o.put hDl n.k).below (aD _ (.cells (bH n) 137)))
      clear hva ho1 HNk HWn hDl
      go_wp2_with fail
      go_roundw
      case rel=>exact⟨k+1,D++[n.k],by omega,by go_num,aA HD2.o,aA (by rw[lAa];exact HX2.o)⟩
      case measure=>simp[intOf];omega
     have q1:(n.op==1)=false:=by simpa using ho1
     by_cases ho2:n.op=2
     ·have q2:(n.op==2)=true:=by simpa using ho2
      have hva:vaN f d v BS D n=inpV f d v n.k:=by unfold vaN;rw[if_neg (by omega),if_neg ho1,if_pos ho2]
      rw[hva] at HD2
      have HI:=aA fun w=>aIc f d n.k v pa pl pc w
      generalize inpV f d v n.k=z at *
      have HX1:=aA (HX.o.below (aD V (.cells (bH n) 137)))
      obtain⟨k0,k1,-,-⟩:=aP HX.o.k
      obtain⟨w0,w1,w2,w3⟩:=aC HX.o.w
      have hz2:=HX.o.k.lt
      have hz3:=HX.o.w.lt
      clear hva ho1 ho2 HNk HWn hDl y0 da
      go_wp2_with fail
      refine(HI.o _).mono ?_
      rintro e V3 ⟨rfl,hb⟩
      have HX3:=aA (HX1.o.below hb)
      have y0:=HX3.o.c.frozen k
      have da:=HX3.o.c.cell k (fF _ k (by have:=HDl.o;simp;omega))
      have HX2:=aA (HX3.o.put HDl.o z)
      clear hb HX1 HI k0 k1 w0 w1 w2 w3 hz2 hz3 e0 e1 e2 e3 e4 e5 e6 e7 e8
      go_wp2_with fail
      go_roundw
      case rel=>exact⟨k+1,D++[z],by omega,by go_num,aA HD2.o,aA (by rw[lAa];exact HX2.o)⟩
      case measure=>simp[intOf];omega
     have q2:(n.op==2)=false:=by simpa using ho2
     by_cases ho3:n.op=3
     ·have q3:(n.op==3)=true:=by simpa using ho3
      have hva:vaN f d v BS D n=aAd f d v n:=by unfold vaN;rw[if_neg (by omega),if_neg ho1,if_neg ho2,if_pos ho3]
      rw[hva] at HD2
      obtain⟨q,hq⟩:=HNk.o ho3
      have hql:=HNl.o _ q hq
      have HI:=aA (aGk f d n v (q:=q) ((HPI.o.later HX.o.lo).later (aD V (.cells (bH n) 137))) HWn.o.wf hq (by rw[<-HLP.o];exact hql))
      generalize aAd f d v n=z at *
      have HX1:=aA (HX.o.below (aD V (.cells (bH n) 137)))
      obtain⟨k0,k1,-,-⟩:=aP HX.o.k
      obtain⟨w0,w1,w2,w3⟩:=aC HX.o.w
      have hz2:=HX.o.k.lt
      have hz3:=HX.o.w.lt
      clear hva ho1 ho2 ho3 HNk HWn hDl y0 da hq hql
      go_wp2_with fail
      refine HI.o.mono ?_
      rintro e V3 ⟨rfl,hb⟩
      have HX3:=aA (HX1.o.below hb)
      have y0:=HX3.o.c.frozen k
      have da:=HX3.o.c.cell k (fF _ k (by have:=HDl.o;simp;omega))
      have HX2:=aA (HX3.o.put HDl.o z)
      clear hb HX1 HI k0 k1 w0 w1 w2 w3 hz2 hz3 e0 e1 e2 e3 e4 e5 e6 e7 e8
      go_wp2_with fail
      go_roundw
      case rel=>exact⟨k+1,D++[z],by omega,by go_num,aA HD2.o,aA (by rw[lAa];exact HX2.o)⟩
      case measure=>simp[intOf];omega
     have q3:(n.op==3)=false:=by simpa using ho3
     by_cases ho4:n.op=4
     ·have q4:(n.op==4)=true:=by simpa using ho4
      have hva:vaN f d v BS D n=D.getD (BS.getD n.k.toNat 0).toNat 0:=by unfold vaN;rw[if_pos ho4]
      rw[hva] at HD2
      obtain⟨u0,u1,u2,u3⟩:=HWn.o.use ho4
      obtain⟨kk,hkk⟩:∃ kk:Nat,n.k=(kk:Int):=⟨n.k.toNat,by omega⟩
      rw[hkk] at e4 u1 u2 u3 HD2
      simp only[iTn] at u1 u2 u3 HD2
      obtain⟨bb,boff,rfl,hbb,hbc⟩:∃ b off,ba=some ⟨b,off,none⟩/\b < V.heap.size/\V.cell? ⟨b,off+kk,none⟩=some (.i (BS.getD kk 0)):=by
       rcases(HBI.o.later HX.o.lo).cell with h0|⟨b,off,ha,hlb,hc⟩
       ·rw[HLB.o] at u1;omega
       ·exact⟨b,off,ha,hlb,hc kk (by rw[<-HLB.o];exact u1)⟩
      obtain⟨q,hq⟩:∃ q:Nat,BS.getD kk 0=(q:Int):=⟨(BS.getD kk 0).toNat,by omega⟩
      rw[hq] at hbc u3 HD2
      simp only[iTn] at u3 HD2
      have s0:=fF (D++0::List.replicate (dl-(k+1)) 0) q (by simp;omega)
      rw[lF (by rw[hDl];exact u3)] at s0
      have d0:=HX.o.c.cell q s0
      generalize D.getD q 0=z at *
      have HX2:=aA ((HX.o.put hDl z).below (aD _ (.cells #[.i n.op,.i n.a,.i n.b,.i n.c,.i kk,.i n.back,.i n.co,.i n.x,.i n.y] 137)))
      have t1:=HX.o.t.cell 1 rfl
      have hz2:=HX.o.t.lt
      have w0:(kk:Int) < bl:=by have:=HLB.o;omega
      have w1:(q:Int) < dl:=by omega
      have w2:(0:Int)<=kk:=by omega
      have w3:(0:Int)<=q:=by omega
      clear s0 hq u0 u1 u2 u3 hva HNk HWn hDl ho1 ho2 ho3 ho4
      go_wp2_with fail
      go_roundw
      case rel=>exact⟨k+1,D++[z],by omega,by go_num,aA HD2.o,aA (by rw[lAa];exact HX2.o)⟩
      case measure=>simp[intOf];omega
     have q4:(n.op==4)=false:=by simpa using ho4
     have hva:vaN f d v BS D n=opV D n:=by unfold vaN;rw[if_neg ho4,if_neg ho1,if_neg ho2,if_neg ho3]
     rw[hva] at HD2
     have HX1:=aA (HX.o.below (aD V (.cells (bH n) 137)))
     have hlen:(D++0::List.replicate (dl-(k+1)) 0).length=dl:=by simp;omega
     have HZ:=aG7 HX1.o.c (by rw[hlen];exact hfew)
     rw[hlen] at HZ
     have HI:=aA (aL5 n HWn.o (by have:=HWn.o.lo;omega) HZ (by omega))
     rw[aUc (by rw[hDl];exact HWn.o)] at HI
     generalize opV D n=z at *
     clear HZ hlen hva ho1 ho2 ho3 ho4 HNk HWn hDl y0 da
     go_wp2_with fail
     refine HI.o.mono ?_
     rintro e V3 ⟨rfl,hb⟩
     have HX3:=aA (HX1.o.below hb)
     have y0:=HX3.o.c.frozen k
     have da:=HX3.o.c.cell k (fF _ k (by have:=HDl.o;simp;omega))
     have HX2:=aA (HX3.o.put HDl.o z)
     clear hb HX1 HI e0 e1 e2 e3 e4 e5 e6 e7 e8
     go_wp2_with fail
     go_roundw
     case rel=>exact⟨k+1,D++[z],by omega,by go_num,aA HD2.o,aA (by rw[lAa];exact HX2.o)⟩
     case measure=>simp[intOf];omega
    ·obtain rfl:k=dl:=by omega
     have e1:NS.take k=NS:=lTl (by rw[HLN.o];exact nLr _)
     have hD:=HD.o
     rw[e1] at hD
     have HX2:=HX.o
     rw[Nat.sub_self,List.replicate_zero,List.append_nil] at HX2
     have HR:=aA hD
     clear hD e1
     go_wp2_with fail
     exact bPr (v:=.tuple #[.slice (some ⟨gv,0,none⟩) k k,.i 0]) (by simp[results,Tryz.results59,go_sem]) rfl (.inr ⟨HV.o,gv,by rw[HLN.o],by omega,by rw[HR.o];exact HX2.c,HX2.lo⟩)
  ·rw[h1]
   rw[h1] at HV
   clear h1 hF HE
   go_wp2_with fail
   exact bPr (v:=.tuple #[.slice none 0 0,.i 1]) (by simp[results,Tryz.results59,go_sem]) rfl (.inl (by rw[HV.o];exact⟨by decide,rfl,HB2.o⟩))
end
section
open Go.RowKit Go.IntWalk Lx Pz
abbrev bJ (es:List E)(ex:E):List Nd:=jL es 0++ex.flat (bZ es)
abbrev rootOf (es:List E)(ex:E):Int:=((bZ es+ex.size:Nat):Int)-1
theorem aA5 {l:List UInt8}{T:List Tok}{NM:List aM}{es:List E}{ex:E}(hT:tks l=some T)(hg:GP [] [] (T.map ab) (NM,es,ex))(hl:NM.length=es.length)(hz:bZ es+ex.size<=T.length) :
  Dec NM (iA es 0) (bJ es ex) (rootOf es ex) es ex:=by
 have hok:(T.map ab).all eH=true:=by
  rw[List.all_map,lAe]
  intro t ht
  exact aYf (aQ8 hT t ht)
 obtain⟨h1,h2,h3⟩:=bAo hg hok rfl (by intro j e h;simp at h) rfl
 have h4:=aVg hT
 exact⟨rfl,rfl,hl,h1,h2,h3,by rw[lLa,dD,E.flat_len],by rw[lLa,dD,E.flat_len];omega⟩
theorem qD {NM:List aM}(h:zO NM=true):∀ s ∈ NM,s.length<=9223372036854775807:=by
 intro s hs
 simp only[zO,bAt,lAe] at h
 have h1:=h.1 s hs
 have h2:rW s=true:=h1.1
 simp only[rW,bAt,dEt] at h2
 have:=h2.1.1.2
 omega
theorem aBq {s:ByteArray}{A:List Tk}{NM:List aM}{es:List E}{ex:E}(ha:ak (bs s)=some A)(hl:s.size<=1024)(hg:GP [] [] A (NM,es,ex))(w:World) :
  Calls Tryz.prog 17 #[.string s] w fun e W'=>∃ na nc ba bc da dc,Dec NM (iA es 0) (bJ es ex) (rootOf es ex) es ex /\
   e=.returned (.tuple #[.agg (eY (.slice na es.length nc) (.slice ba es.length bc) (.slice da (bZ es+ex.size) dc) (.i (rootOf es ex))),.i 0])/\Tx W' na es.length nc NM/\Iz W' ba es.length bc (iA es 0) /\
   Nz W' da (bZ es+ex.size) dc (bJ es ex)/\Below w.heap.size w W':=by
 obtain⟨T0,hT0,hab⟩:=aZj ha (by rw[dN];exact hl)
 refine(sP s w).mono ?_
 rintro e W1 (⟨-,-,hbad⟩|⟨T,NM',es',ex',na,nc,ba,bc,da,dc,hT,hA,h3,h4,rfl,h6,h7,h8,h9⟩)
 ·exfalso
  rw[hT0] at hbad
  rcases hbad with h|⟨T,h,h2⟩
  ·cases h
  ·cases h
   rw[hab] at h2
   have:=(h2 _).2 hg
   cases this
 ·have hd:=aA5 hT ((hA _).1 rfl) h3 h4
  rw[hT0] at hT
  cases hT
  rw[hab] at hA
  have:=(hA _).2 hg
  cases this
  exact⟨na,nc,ba,bc,da,dc,hd,rfl,h6,h7,h8,h9⟩
theorem jS {NM:List aM}{BS:List Int}{NS:List Nd}{root:Int}(h:pO NM BS NS root=true):0<=root/\root.toNat < NS.length/\NS.length<=1024:=by
 obtain⟨es,ex,hD⟩:=iK.1 h
 have h1:=hD.root
 have h2:1<=NS.length:=by rw[hD.nodes,lLa,E.flat_len];have:=ex.size_pos;omega
 have:=hD.few
 omega
theorem aB0 (f d:Int)(v:Wd){W:World}{na ba da pa:Option Addr}{nl nc bl bc dl dc pl pc:Nat}{root:Int}{NM:List aM}{BS:List Int}{NS:List Nd}(hX:Tx W na nl nc NM)(hB:Iz W ba bl bc BS)(hN:Nz W da dl dc NS)(hs:∀ s ∈ NM,s.length<=9223372036854775807)(hP:Knd.Ints W pa pl pc v.ps) :
  Calls Tryz.prog 20 #[.agg (dB f d),.agg (eY (.slice na nl nc) (.slice ba bl bc) (.slice da dl dc) (.i root)),.agg (dQ v pa pl pc)] W fun e W' =>
   e=.returned (.tuple #[.i (evV f d v NM BS NS root),.i (evE f d v NM BS NS root)])/\Below W.heap.size W W':=by
 have hb1:=aD W (.cells (dB f d) 23)
 have hb2:=bel hb1 (aD (W.alloc (.cells (dB f d) 23)) (.cells (eY (.slice na nl nc) (.slice ba bl bc) (.slice da dl dc) (.i root)) 50))
 have hb3:=bel hb2 (aD ((W.alloc (.cells (dB f d) 23)).alloc (.cells (eY (.slice na nl nc) (.slice ba bl bc) (.slice da dl dc) (.i root)) 50)) (.cells (dQ v pa pl pc) 26))
 have HT0:Hid (aB (((W.alloc (.cells (dB f d) 23)).alloc (.cells (eY (.slice na nl nc) (.slice ba bl bc) (.slice da dl dc) (.i root)) 50)).alloc (.cells (dQ v pa pl pc) 26)) (W.heap.size+1) 50 (eY (.slice na nl nc) (.slice ba bl bc) (.slice da dl dc) (.i root))):=by
  have:=(aB.new (W.alloc (.cells (dB f d) 23)) 50 (eY (.slice na nl nc) (.slice ba bl bc) (.slice da dl dc) (.i root))).alloc (.cells (dQ v pa pl pc) 26)
  simp only[wSa] at this
  exact aA this
 have HB0:=aA hb3
 have HA:=aA (aRh f d v (root:=root) (hX.later hb3) (hB.later hb3) (hN.later hb3) hs (hP.later hb3))
 clear hb1 hb2 hb3 hX hB hN hP
 obtain⟨R,hR⟩:∃ R,evV f d v NM BS NS root=R:=⟨_,rfl⟩
 obtain⟨E,hE⟩:∃ E,evE f d v NM BS NS root=E:=⟨_,rfl⟩
 rw[hR,hE]
 have HR:=aA hR
 have HE:=aA hE
 clear hR hE
 go_enter Tryz.func20,Tryz.ntmps20
 go_wp2_with fail
 refine HA.o.mono ?_
 rintro e V1 (⟨he,rfl,hb⟩|⟨he,g,rfl,-,hG,hb⟩)
 ·rw[HE.o] at he ⊢
  have h1:(E != 0)=true:=by simpa using he
  have hz:R=0:=by rw[<-HR.o];unfold evV;rw[HE.o,if_neg he]
  subst hz
  have HB1:=aA (bel HB0.o hb)
  clear hb he HA HB0 HT0
  go_wp2_with fail
  go_ret2
  exact⟨rfl,HB1.o⟩
 ·have h2:=HE.o
  rw[he] at h2
  subst h2
  obtain⟨r0,r1,r2⟩:=jS (nC (yL.1 he).1)
  have hr:R=(vaR f d v BS NS []).getD root.toNat 0:=by rw[<-HR.o];unfold evV;rw[if_pos he]
  obtain⟨q,rfl⟩:∃ q:Nat,root=q:=⟨root.toNat,by omega⟩
  simp only[iTn] at r1 hr
  have s0:=fF (vaR f d v BS NS []) q (by rw[aD8];simpa using r1)
  rw[<-hr] at s0
  have c0:=hG.cell q s0
  have t3:=(HT0.o.below hb).cell 3 rfl
  have HB1:=aA (bel HB0.o hb)
  have i0:(0:Int)<=q:=by omega
  have i1:(q:Int) < NS.length:=by omega
  clear hb he HA HB0 HT0 s0 hr hG r0 r1 r2 HE HR
  go_wp2_with fail
  go_ret2
  exact⟨rfl,HB1.o⟩
theorem aJm {W:World}{base size b n:Nat}{t e:TypeId}{v:Value}{xs:List Value}{cs:Array Value}(h:W.ownsRow base e size v n xs)(hb:aB W b t cs)(ht:t≠e):v.ownBlock≠some b:=by
 intro hk
 obtain⟨-,cs',fr,h2⟩:=aR h b hk
 rw[hb] at h2
 cases h2
 exact ht rfl
theorem nO {V:World}{base b:Nat}{e t:TypeId}{size n:Nat}{v:Value}{xs:List Value}{cs:Array Value}(h:V.ownsRow base e size v n xs)(hb:aB V b t cs)(ht:t≠e)(i:Nat)(x:Value):(V.setCell ⟨b,i,none⟩ x).ownsRow base e size v n xs:=by
 refine ownsRow_setCell_other h (a:=⟨b,i,none⟩) ?_ x
 exact aJm h hb ht
abbrev wd0 (v:Value):Array Value:=#[.i 0,.i 0,.i 0,v]
end
section
open Go.RowKit Go.IntWalk Lx Pz
open Vfy (jV)

end
section
open Lx Pz
def Cd (e:Int):Prop:=e=0\/e=1\/e=12\/e=13
theorem nY {f d:Int}{NM:List aM}{BS:List Int}{NS:List Nd}{root:Int}:jZ f d NM BS NS root=0↔Knd.May f d/\pO NM BS NS root=true/\NS.any (ahB f d)=false/\(oQ f d BS NS []).2=0/\oW NS<=200/\mxR (rY BS NS [])<=24:=by
 unfold jZ
 by_cases h1:Knd.May f d
 ·rw[if_neg (by simpa using h1)]
  cases h2:pO NM BS NS root
  ·simp
  ·rw[if_neg (by simp)]
   cases h3:NS.any (ahB f d)
   ·rw[if_neg (by simp)]
    by_cases h4:(oQ f d BS NS []).2=0
    ·rw[if_neg (by simpa using h4)]
     by_cases h5:200 < oW NS\/24 < mxR (rY BS NS [])
     ·rw[if_pos h5]
      constructor
      ·intro h;cases h
      ·rintro⟨-,-,-,-,a,b⟩;omega
     ·rw[if_neg h5]
      exact⟨fun _=>⟨h1,rfl,rfl,h4,by omega,by omega⟩,fun _=>rfl⟩
    ·rw[if_pos h4]
     exact⟨fun h=>absurd h h4,fun h=>absurd h.2.2.2.1 h4⟩
   ·rw[if_pos rfl]
    constructor
    ·intro h;cases h
    ·rintro⟨-,-,h,-⟩;cases h
 ·rw[if_pos h1]
  constructor
  ·intro h;cases h
  ·intro h;exact absurd h.1 h1
def w32 (a:Int):Prop:=-2147483648<=a/\a<=2147483647
end
section
open Go.RowKit Go.IntWalk Lx Pz

end
section
open Lx Pz
theorem aNw {f d:Int}{v:Wd}(h:Fits f d v):Knd.May f d:=by
 obtain⟨⟨⟨⟨lo,hi,hz,-⟩,-⟩,-⟩,-⟩:=h
 apply Classical.byContradiction
 intro hm
 unfold Knd.gL at hz
 rw[if_pos hm] at hz
 cases hz
end
section
open Lx Pz
open Vfy (aCf)
def tC (V:List Int)(S:eO):Prop:=V.length=S.length/\∀ i,i < S.length->(S.getD i (0,0)).1<=V.getD i 0/\V.getD i 0<=(S.getD i (0,0)).2/\w32 (V.getD i 0)
theorem tC.snoc {V:List Int}{S:eO}{x:Int}{p:Int × Int}(h:tC V S)(h1:p.1<=x)(h2:x<=p.2)(h3:w32 x):tC (V++[x]) (S++[p]):=by
 have hl:=h.1
 refine⟨by simp[hl],fun i hi=>?_⟩
 simp only[lLa,lLc,lLn] at hi
 by_cases e:i < S.length
 ·rw[dJ e,lF (by omega)]
  exact h.2 i e
 ·have e2:i=S.length:=by omega
  subst e2
  rw[show (S++[p]).getD S.length (0,0)=p by simp[List.getD_eq_getElem?_getD],show (V++[x]).getD S.length 0=x by rw[<-hl];simp[List.getD_eq_getElem?_getD]]
  exact⟨h1,h2,h3⟩
theorem tC.ins {V:List Int}{S:eO}(h:tC V S):∀(P:List Int),(∀ p ∈ P,p.toNat < S.length)->Spn.Ins (P.map fun p=>V.getD p.toNat 0) (P.map fun p=>S.getD p.toNat (0,0))
 | [],_=>trivial
 | p::P,hp=>by
  obtain⟨h1,h2,-⟩:=h.2 p.toNat (hp p (by simp))
  exact⟨⟨h1,h2⟩,tC.ins h P fun q hq=>hp q (by simp[hq])⟩
theorem jN (f d:Int):w32 (Knd.fG f d)/\w32 (Knd.cK f d)/\w32 (Knd.bL f d):=by
 rcases Knd.lI f d with⟨hm,rfl⟩|⟨hm,rfl⟩|hm
 ·have:=Knd.mJ (d-1) (by have:=hm.2.2;omega)
  obtain⟨a,b,c,-⟩:=Knd.zs0 hm
  rw[a,b,c];unfold w32;omega
 ·have:=Knd.mJ (d-1) (by have:=hm.2.2;omega)
  obtain⟨a,b,c,-⟩:=Knd.zs1 hm
  rw[a,b,c];unfold w32;omega
 ·obtain⟨a,b,c,-⟩:=Knd.zs2 hm
  rw[a,b,c];unfold w32;omega
theorem xN {op k s x:Int}{xs:List Int}(h:Spn.bK op k s xs=(x,0)):w32 x:=by
 unfold Spn.bK at h
 split at h
 ·split at h
  ·split at h
   ·rename_i hw
    cases h
    exact Spn.bY.1 hw
   ·cases h
  ·rename_i h1
   exact absurd (congrArg Prod.snd h) h1
 ·cases h
theorem aHg {f d k:Int}{v:Wd}(hF:Fits f d v)(h0:0<=k)(h5:k<=5):((Knd.gL f d k).getD (0,0)).1<=inpV f d v k/\inpV f d v k<=((Knd.gL f d k).getD (0,0)).2/\w32 (inpV f d v k):=by
 have hm:=aNw hF
 obtain⟨⟨⟨⟨a1,a2,e1,g1,g2⟩,⟨b1,b2,e2,g3,g4⟩⟩,⟨c1,c2,e3,g5,g6⟩⟩,-⟩:=hF
 obtain⟨w1,w2,w3⟩:=jN f d
 have hcr:=aCf f
 rcases(show k=0\/k=1\/k=2\/k=3\/k=4\/k=5 by omega) with rfl|rfl|rfl|rfl|rfl|rfl
 ·rw[e1]
  have e:Knd.gL f d 0=some (0,Knd.nZ f-1):=by unfold Knd.gL;rw[if_neg (by simpa using hm)];rfl
  rw[e] at e1
  cases e1
  exact⟨g1,g2,by show w32 v.x;unfold w32;omega⟩
 ·rw[e2]
  have e:Knd.gL f d 1=some (0,Knd.oK f-1):=by unfold Knd.gL;rw[if_neg (by simpa using hm)];rfl
  rw[e] at e2
  cases e2
  exact⟨g3,g4,by show w32 v.y;unfold w32;omega⟩
 ·rw[e3]
  have e:Knd.gL f d 2=some (0,3):=by unfold Knd.gL;rw[if_neg (by simpa using hm)];rfl
  rw[e] at e3
  cases e3
  exact⟨g5,g6,by show w32 v.c;unfold w32;omega⟩
 ·have e:Knd.gL f d 3=some (Knd.fG f d,Knd.fG f d):=by unfold Knd.gL;rw[if_neg (by simpa using hm)];rfl
  rw[e];exact⟨iLr _,iLr _,w1⟩
 ·have e:Knd.gL f d 4=some (Knd.cK f d,Knd.cK f d):=by unfold Knd.gL;rw[if_neg (by simpa using hm)];rfl
  rw[e];exact⟨iLr _,iLr _,w2⟩
 ·have e:Knd.gL f d 5=some (Knd.bL f d,Knd.bL f d):=by unfold Knd.gL;rw[if_neg (by simpa using hm)];rfl
  rw[e];exact⟨iLr _,iLr _,w3⟩
theorem aZc {f d:Int}{v:Wd}{n:Nd}(hF:Fits f d v)(hn:∃ q,Knd.mP f d (jX n)=some q):Knd.fG f d<=aAd f d v n/\aAd f d v n<=Knd.cK f d/\w32 (aAd f d v n):=by
 obtain⟨q,hq⟩:=hn
 have hl:=aPf hF hq
 have h:=hF.2.2 (aAd f d v n) (by
  unfold aAd
  rw[hq,oGs,gdE,gEg hl]
  exact List.getElem_mem hl)
 obtain⟨w1,w2,-⟩:=jN f d
 exact⟨h.1,h.2,by unfold w32 at *;omega⟩
theorem aZu {f d:Int}{v:Wd}{BS V:List Int}{S:eO}{n:Nd}(hF:Fits f d v)(hI:tC V S)(hn:Wn BS S.length n)(ha:n.op=3->∃ q,Knd.mP f d (jX n)=some q)(h:(sV f d BS S n).2=0) :
  (sV f d BS S n).1.1<=vaN f d v BS V n/\vaN f d v BS V n<=(sV f d BS S n).1.2/\w32 (vaN f d v BS V n):=by
 unfold vaN
 unfold sV at h ⊢
 by_cases h4:n.op=4
 ·rw[if_pos h4] at h ⊢
  rw[if_pos h4]
  exact hI.2 _ (hn.use h4).2.2.2
 rw[if_neg h4] at h ⊢
 rw[if_neg h4]
 by_cases h1:n.op=1
 ·rw[if_pos h1] at h ⊢
  rw[if_pos h1]
  have:=hn.num h1
  exact⟨iLr _,iLr _,by unfold w32;omega⟩
 rw[if_neg h1] at h ⊢
 rw[if_neg h1]
 by_cases h2:n.op=2
 ·rw[if_pos h2] at h ⊢
  rw[if_pos h2]
  exact aHg hF (hn.inp h2).1 (hn.inp h2).2
 rw[if_neg h2] at h ⊢
 rw[if_neg h2]
 by_cases h3:n.op=3
 ·rw[if_pos h3] at h ⊢
  rw[if_pos h3]
  exact aZc hF (ha h3)
 rw[if_neg h3] at h ⊢
 rw[if_neg h3]
 obtain⟨x,h5,h6,h7⟩:=Spn.vC (Prod.ext rfl h:Spn.ofZ n.op 0 0 ((dG n).map fun p=>S.getD p.toNat (0,0))=((_,_),0)) (hI.ins (dG n) fun p hp=>(hn.prt p hp).2)
 unfold opV
 rw[h5]
 exact⟨h6,h7,xN h5⟩
end
open Go.RowKit Lx Pz
variable {i:Nat} {BS R:List Int} {d f root:Int} {v:Wd}
def uH (R:List Int)(p:Int):Int:=R.getD p.toNat 0
def loK (f d:Int)(n:Nd):Int:=if n.op=3 then(((Knd.mP f d (jX n)).getD 0:Nat):Int) else n.k
def qW (f d:Int)(R:List Int)(n:Nd):Cde.In :=
 if lW n.op=1 then⟨n.op,uH R n.a,0,0,0,0⟩ else if lW n.op=2 then⟨n.op,uH R n.a,uH R n.b,0,0,0⟩ else
 if lW n.op=3 then⟨n.op,uH R n.a,uH R n.b,uH R n.c,0,0⟩ else⟨n.op,0,0,0,loK f d n,0⟩
def loS (f d:Int)(BS:List Int)(s:List Int × List Cde.In)(n:Nd):List Int × List Cde.In :=
 if n.op=4 then(s.1++[uH s.1 (BS.getD n.k.toNat 0)],s.2) else(s.1++[(s.2.length:Int)],s.2++[qW f d s.1 n])
def pF (f d:Int)(BS:List Int)(NS:List Nd):List Int × List Cde.In:=NS.foldl (loS f d BS) ([],[])
theorem aOq (f d:Int)(BS:List Int)(NS:List Nd)(n:Nd):pF f d BS (NS++[n])=loS f d BS (pF f d BS NS) n:=by simp[pF]
def cn (NS:List Nd):Nat:=(NS.filter fun n=>n.op != 4).length
theorem aIq (NS:List Nd)(n:Nd):cn (NS++[n])=if n.op=4 then cn NS else cn NS+1:=by
 unfold cn
 rw[List.filter_append,lLa]
 split
 ·rename_i h;simp[h]
 ·rename_i h;simp[h]
theorem qB (f d:Int)(R:List Int)(n:Nd):(qW f d R n).op=n.op:=by
 unfold qW
 repeat' split
 all_goals rfl
theorem aUa {L:List Cde.In}{x:Cde.In}:Cde.eH (L++[x]) L.length=Cde.eH L L.length:=by
 unfold Cde.eH
 rw[Bool.eq_iff_iff,lAe,lAe]
 have e:∀ i,i < L.length->(L++[x]).getD i Cde.i0=L.getD i Cde.i0:=fun i hi=>by
  rw[gdE,gAl hi,<-gdE]
 constructor
 ·intro h i hi
  have:=h i hi
  rwa[e i (List.mem_range.1 hi)] at this
 ·intro h i hi
  rw[e i (List.mem_range.1 hi)]
  exact h i hi
theorem bU {α:Type}(L:List α)(x z:α):(L++[x]).getD L.length z=x:=by simp[List.getD_eq_getElem?_getD]
theorem bM {α:Type}{S Z:List α}{z:α}(h:i < S.length):(S++Z).getD i z=S.getD i z:=by
 rw[gdE,gAl h,<-gdE]
theorem tO {n:Nd}(hn:Wn BS i n)(h4:n.op≠4):(lW n.op=0/\(n.op=1\/n.op=2\/n.op=3))\/(5<=n.op/\lW n.op=1/\dG n=[n.a])\/(5<=n.op/\lW n.op=2/\dG n=[n.a,n.b])\/(5<=n.op/\lW n.op=3/\dG n=[n.a,n.b,n.c]):=by
 have h1:=hn.ar h4
 have h2:=hn.pr
 have lo:=hn.lo
 have hi:=hn.hi
 have hp:dG n=[n.a,n.b,n.c].take (lW n.op).toNat:=by unfold dG;rw[h1]
 rw[hp]
 by_cases a:n.op<=3
 ·refine .inl ⟨?_,by omega⟩
  unfold lW;rw[if_pos (by omega)]
 by_cases b:n.op<=7
 ·have e:lW n.op=1:=by unfold lW;rw[if_neg (by omega),if_pos (by omega)]
  exact .inr (.inl ⟨by omega,e,by rw[e];rfl⟩)
 by_cases c:n.op<=25
 ·have e:lW n.op=2:=by unfold lW;rw[if_neg (by omega),if_neg (by omega),if_neg (by omega),if_pos (by omega)]
  exact .inr (.inr (.inl ⟨by omega,e,by rw[e];rfl⟩))
 ·have e:lW n.op=3:=by unfold lW;rw[if_neg (by omega),if_neg (by omega),if_neg (by omega),if_neg (by omega),if_pos (by omega)]
  exact .inr (.inr (.inr ⟨by omega,e,by rw[e];rfl⟩))
structure Lw (NS:List Nd)(R:List Int)(I:List Cde.In):Prop where
 len:R.length=NS.length
 reg:∀ j,j < NS.length->0<=R.getD j 0/\(R.getD j 0).toNat < I.length
 ok:Cde.eH I I.length=true
 co:Cde.eU I=oW NS
 le:(I.length:Int)<=oW NS
 cnt:I.length=cn NS
 own:∀ j,j < NS.length->(NS.getD j n0).op≠4->R.getD j 0=(cn (NS.take j):Int)/\(I.getD (cn (NS.take j)) Cde.i0).op=(NS.getD j n0).op/\cn (NS.take j) < I.length
theorem aHl {p:Knd.Plc}{q:Nat}(hq:Knd.mP f d p=some q):(q:Int) < Knd.bX f d/\Knd.bX f d<=44:=by
 have h1:=Knd.kY f d
 have h2:=aC0 _ _ _ (by omega) q hq
 have h3:=Knd.aFq f d
 have h4:Knd.bX f d<=44:=by unfold Knd.bX;repeat' split <;> omega
 omega
theorem rF {r:Int}(h:0<=r)(h2:r.toNat < i):Cde.tH r true i=true:=by
 unfold Cde.tH
 rw[if_pos rfl,Spn.aK]
 omega
theorem aXl {n:Nd}{m:Nat}(hn:Wn BS R.length n)(h4:n.op≠4)(hr:∀ j,j < R.length->0<=R.getD j 0/\(R.getD j 0).toNat < m)(ha:n.op=3->∃ q,Knd.mP f d (jX n)=some q):Cde.bE (qW f d R n) m=true:=by
 have hp:=hn.prt
 have hr2:∀ p ∈ dG n,0<=uH R p/\(uH R p).toNat < m:=fun p h=>hr _ (hp p h).2
 have hi:=hn.hi
 unfold Cde.bE Cde.tJ Cde.nE
 simp only[wV,qB,bAt,dEt]
 unfold qW
 rcases tO hn h4 with⟨e,h⟩|⟨h5,e,hq⟩|⟨h5,e,hq⟩|⟨h5,e,hq⟩
 ·rw[e]
  refine⟨⟨by omega,⟨rfl,rfl⟩,rfl⟩,?_⟩
  simp only[show ¬((0:Int)=1) by decide,show ¬((0:Int)=2) by decide,show ¬((0:Int)=3) by decide,if_false]
  unfold loK
  rcases h with h|h|h
  ·rw[if_pos h,if_neg (by omega)]
   have:=hn.num h
   simp only[beq_self_eq_true,Bool.and_true]
   exact Spn.bY.2 (by omega)
  ·rw[if_neg (by omega),if_pos h,if_neg (by omega)]
   have:=hn.inp h
   simp only[beq_self_eq_true,Bool.and_true,Spn.aK]
   omega
  ·rw[if_neg (by omega),if_neg (by omega),if_pos h,if_pos h]
   obtain⟨q,hq⟩:=ha h
   have:=aHl hq
   rw[hq]
   simp only[oGs,beq_self_eq_true,Bool.and_true,Spn.aK]
   omega
 ·rw[hq] at hr2
  rw[e,if_pos rfl,if_neg (by omega),if_neg (by omega),if_neg (by omega),if_neg (by omega),if_neg (by omega)]
  have h1:=hr2 n.a (by simp)
  exact⟨⟨by omega,⟨rF h1.1 h1.2,rfl⟩,rfl⟩,rfl⟩
 ·rw[hq] at hr2
  rw[e,if_neg (by decide),if_pos rfl,if_neg (by omega),if_neg (by omega),if_neg (by omega),if_neg (by omega),if_neg (by omega)]
  have h1:=hr2 n.a (by simp)
  have h2:=hr2 n.b (by simp)
  exact⟨⟨by omega,⟨rF h1.1 h1.2,rF h2.1 h2.2⟩,rfl⟩,rfl⟩
 ·rw[hq] at hr2
  rw[e,if_neg (by decide),if_neg (by decide),if_pos rfl,if_neg (by omega),if_neg (by omega),if_neg (by omega),if_neg (by omega),if_neg (by omega)]
  have h1:=hr2 n.a (by simp)
  have h2:=hr2 n.b (by simp)
  have h3:=hr2 n.c (by simp)
  exact⟨⟨by omega,⟨rF h1.1 h1.2,rF h2.1 h2.2⟩,rF h3.1 h3.2⟩,rfl⟩
theorem aSk (o:Int):Cde.jK o=jK o:=rfl
theorem mY {α:Type}{A:List α}{x:α}{j:Nat}(h:j<=A.length):(A++[x]).take j=A.take j:=List.take_append_of_le_length h
theorem Lw.step {NS:List Nd}{I:List Cde.In}{n:Nd}(h:Lw NS R I)(hn:Wn BS NS.length n)(ha:n.op=3->∃ q,Knd.mP f d (jX n)=some q):Lw (NS++[n]) (loS f d BS (R,I) n).1 (loS f d BS (R,I) n).2:=by
 have hl:=h.len
 unfold loS
 by_cases h4:n.op=4
 ·rw[if_pos h4]
  dsimp only
  have h0:jK n.op=0:=by rw[h4];rfl
  obtain⟨-,-,-,hu⟩:=hn.use h4
  refine⟨by simp[hl],fun j hj=>?_,h.ok,by rw[pQ,h0,h.co];simp,by rw[pQ,h0];have:=h.le;simpa using this,by rw[aIq,if_pos h4];exact h.cnt,fun j hj hj4=>?_⟩
  ·simp only[lLa,lLc,lLn] at hj
   by_cases e:j < R.length
   ·rw[bM e];exact h.reg j (by omega)
   ·obtain rfl:j=R.length:=by omega
    rw[bU]
    exact h.reg _ hu
  ·simp only[lLa,lLc,lLn] at hj
   by_cases e:j < NS.length
   ·rw[bM e] at hj4
    rw[bM (by omega),bM e,mY (by omega)]
    exact h.own j e hj4
   ·obtain rfl:j=NS.length:=by omega
    rw[bU] at hj4
    exact absurd h4 hj4
 ·rw[if_neg h4]
  dsimp only
  have h1:1<=jK n.op:=by unfold jK;rw[if_neg h4];repeat' split <;> omega
  have hc:=h.cnt
  refine⟨by simp[hl],fun j hj=>?_,?_,by rw[pQ,Cde.gG,h.co,qB,aSk],by rw[pQ];have:=h.le;simp only[lLa,lLc,lLn];omega,by rw[aIq,if_neg h4];simp[hc],fun j hj hj4=>?_⟩
  ·simp only[lLa,lLc,lLn] at hj ⊢
   by_cases e:j < R.length
   ·rw[bM e];have:=h.reg j (by omega);omega
   ·obtain rfl:j=R.length:=by omega
    rw[bU]
    omega
  ·rw[show (I++[qW f d R n]).length=I.length+1 by simp,Cde.aFm,aUa,h.ok,bU,Bool.true_and]
   exact aXl (by rw[hl];exact hn) h4 (fun j hj=>h.reg j (by omega)) ha
  ·simp only[lLa,lLc,lLn] at hj ⊢
   by_cases e:j < NS.length
   ·rw[bM e] at hj4
    obtain⟨a,b,c⟩:=h.own j e hj4
    rw[bM (by omega),bM e,mY (by omega),bM c]
    exact⟨a,b,by omega⟩
   ·obtain rfl:j=NS.length:=by omega
    rw[bU,mY (nLr _),lTg,<-hl,bU,<-hc,bU,qB]
    exact⟨rfl,rfl,by omega⟩
theorem Lw.run {f d:Int}{BS:List Int}:∀(B A:List Nd) (s:List Int × List Cde.In),Lw A s.1 s.2->Wl BS A.length B->(∀ n ∈ B,n.op=3->∃ q,Knd.mP f d (jX n)=some q)->Lw (A++B) (B.foldl (loS f d BS) s).1 (B.foldl (loS f d BS) s).2
 | [],A,s,h,_,_=>by simpa using h
 | n::B,A,s,h,hw,ha=>by
  have h2:=Lw.run (f:=f) (d:=d) B (A++[n]) (loS f d BS s n) (h.step hw.1 (ha n (by simp))) (by simpa using hw.2) (fun m hm=>ha m (by simp[hm]))
  simpa using h2
theorem aC3:Lw [] [] []:=⟨rfl,fun j hj=>by simp at hj,rfl,rfl,by decide,rfl,fun j hj=>by simp at hj⟩
theorem zK {NM:List aM}{NS:List Nd}(h:jZ f d NM BS NS root=0):Lw NS (pF f d BS NS).1 (pF f d BS NS).2:=by
 obtain⟨es,ex,hD⟩:=iK.1 (nY.1 h).2.1
 have:=Lw.run (f:=f) (d:=d) NS [] ([],[]) aC3 hD.wl (fun n hn h3=>xZ h hn h3)
 rw[List.nil_append] at this
 exact this
theorem aXm {NM:List aM}{NS:List Nd}(h:jZ f d NM BS NS root=0):Cde.kM f d (pF f d BS NS).2 ((pF f d BS NS).1.getD root.toNat 0)=true:=by
 obtain⟨a1,a2,a3,a4,a5,a6⟩:=nY.1 h
 have hw:=zK h
 obtain⟨r0,r1,r2⟩:=jS a2
 have h1:=hw.reg root.toNat r1
 have h2:=hw.le
 unfold Cde.kM
 simp only[bAt,dEt,Spn.aK]
 exact⟨⟨⟨a1,by omega,by omega⟩,by omega,by omega⟩,hw.ok⟩
structure Lv (f d:Int)(v:Wd)(V R:List Int)(I:List Cde.In)(X:List Int):Prop where
 run:Cde.nA f d v I=(0,X)
 len:X.length=I.length
 val:∀ j,j < R.length->V.getD j 0=X.getD (R.getD j 0).toNat 0
theorem aXn {V X:List Int}{S:eO}{n:Nd}(hF:Fits f d v)(hI:tC V S)(hl:R.length=S.length)(hn:Wn BS S.length n)(h4:n.op≠4)(ha:n.op=3->∃ q,Knd.mP f d (jX n)=some q)(h:(sV f d BS S n).2=0)
  (hv:∀ j,j < R.length->V.getD j 0=X.getD (R.getD j 0).toNat 0):Cde.cZ f d v X (qW f d R n)=(vaN f d v BS V n,0):=by
 have hv2:∀ p ∈ dG n,X.getD (uH R p).toNat 0=V.getD p.toNat 0:=fun p hp=>(hv _ (by rw[hl];exact(hn.prt p hp).2)).symm
 unfold Cde.cZ vaN
 rw[qB,if_neg h4]
 by_cases h1:n.op=1
 ·rw[if_pos h1,if_pos h1]
  have e:lW n.op=0:=by rw[h1];rfl
  unfold qW loK
  rw[e,if_neg (by decide),if_neg (by decide),if_neg (by decide),if_neg (by omega)]
 rw[if_neg h1,if_neg h1]
 by_cases h2:n.op=2
 ·rw[if_pos h2,if_pos h2]
  have e:lW n.op=0:=by rw[h2];rfl
  unfold qW loK
  rw[e,if_neg (by decide),if_neg (by decide),if_neg (by decide),if_neg (by omega)]
 rw[if_neg h2,if_neg h2]
 by_cases h3:n.op=3
 ·rw[if_pos h3,if_pos h3]
  have e:lW n.op=0:=by rw[h3];rfl
  obtain⟨q,hq⟩:=ha h3
  have:=aHl hq
  have ek:(qW f d R n).k=(q:Int):=by
   unfold qW loK
   rw[e,if_neg (by decide),if_neg (by decide),if_neg (by decide),if_pos h3,hq]
   rfl
  rw[ek,if_neg (by omega),iTn]
  unfold aAd
  rw[hq]
  rfl
 rw[if_neg h3,if_neg h3]
 unfold sV at h
 rw[if_neg h4,if_neg h1,if_neg h2,if_neg h3] at h
 obtain⟨x,h5,h6,h7⟩:=Spn.vC (Prod.ext rfl h:Spn.ofZ n.op 0 0 ((dG n).map fun p=>S.getD p.toNat (0,0))=((_,_),0)) (hI.ins (dG n) fun p hp=>(hn.prt p hp).2)
 have hk:(qW f d R n).k=0/\(qW f d R n).s=0/\Cde.gW X (qW f d R n)=(dG n).map fun p=>V.getD p.toNat 0:=by
  unfold Cde.gW Cde.eF Cde.dC Cde.abc
  rw[qB,wV]
  unfold qW
  rcases tO hn h4 with⟨e,h⟩|⟨h5,e,hq⟩|⟨h5,e,hq⟩|⟨h5,e,hq⟩
  ·omega
  ·rw[hq] at hv2 ⊢
   rw[e,if_pos rfl]
   refine⟨rfl,rfl,?_⟩
   show [X.getD (uH R n.a).toNat 0]=[V.getD n.a.toNat 0]
   rw[hv2 n.a (by simp)]
  ·rw[hq] at hv2 ⊢
   rw[e,if_neg (by decide),if_pos rfl]
   refine⟨rfl,rfl,?_⟩
   show [X.getD (uH R n.a).toNat 0,X.getD (uH R n.b).toNat 0]=[V.getD n.a.toNat 0,V.getD n.b.toNat 0]
   rw[hv2 n.a (by simp),hv2 n.b (by simp)]
  ·rw[hq] at hv2 ⊢
   rw[e,if_neg (by decide),if_neg (by decide),if_pos rfl]
   refine⟨rfl,rfl,?_⟩
   show [X.getD (uH R n.a).toNat 0,X.getD (uH R n.b).toNat 0,X.getD (uH R n.c).toNat 0]=[V.getD n.a.toNat 0,V.getD n.b.toNat 0,V.getD n.c.toNat 0]
   rw[hv2 n.a (by simp),hv2 n.b (by simp),hv2 n.c (by simp)]
 rw[hk.1,hk.2.1,hk.2.2]
 unfold opV
 rw[h5]
theorem Lv.all {f d:Int}{v:Wd}{BS:List Int}(hF:Fits f d v):∀(B A:List Nd) (V X:List Int) (s:List Int × List Cde.In) (S T:eO),tC V S->S.length=A.length->Lw A s.1 s.2->Lv f d v V s.1 s.2 X->Wl BS A.length B->(∀ n ∈ B,n.op=3->∃ q,Knd.mP f d (jX n)=some q)->oQ f d BS B S=(T,0)->∃ X',Lv f d v (vaR f d v BS B V) (B.foldl (loS f d BS) s).1 (B.foldl (loS f d BS) s).2 X'
 | [],A,V,X,s,S,T,hI,hS,hw,hv,_,_,h=>⟨X,hv⟩
 | n::B,A,V,X,s,S,T,hI,hS,hw,hv,hl,ha,h=>by
  simp only[oQ] at h
  split at h
  ·rename_i h1
   have hn:=hl.1
   rw[<-hS] at hn
   have hVl:=hI.1
   have hRl:=hw.len
   obtain⟨a,b,c⟩:=aZu hF hI hn (ha n (by simp)) h1
   have hlw:=hw.step (f:=f) (d:=d) (BS:=BS) hl.1 (ha n (by simp))
   have hlv:∃ X',Lv f d v (V++[vaN f d v BS V n]) (loS f d BS s n).1 (loS f d BS s n).2 X':=by
    unfold loS
    by_cases h4:n.op=4
    ·rw[if_pos h4]
     refine⟨X,hv.run,hv.len,fun j hj=>?_⟩
     simp only[lLa,lLc,lLn] at hj
     by_cases e:j < s.1.length
     ·rw[bM (by omega),bM e];exact hv.val j e
     ·obtain rfl:j=s.1.length:=by omega
      rw[bU,show s.1.length=V.length by omega,bU]
      unfold vaN
      rw[if_pos h4]
      exact hv.val _ (by have:=(hn.use h4).2.2.2;omega)
    ·rw[if_neg h4]
     have e1:=aXn (BS:=BS) (R:=s.1) hF hI (by omega) hn h4 (ha n (by simp)) h1 hv.val
     refine⟨X++[vaN f d v BS V n],?_,by simp[hv.len],fun j hj=>?_⟩
     ·rw[Cde.dZ,hv.run]
      unfold Cde.tK
      simp only[if_true]
      rw[e1,if_pos rfl]
     ·simp only[lLa,lLc,lLn] at hj
      by_cases e:j < s.1.length
      ·have hr:=hw.reg j (by omega)
       rw[bM (by omega),bM e,bM (by rw[hv.len];exact hr.2)]
       exact hv.val j e
      ·obtain rfl:j=s.1.length:=by omega
       rw[bU,show s.1.length=V.length by omega,bU,iTn,<-hv.len,bU]
   obtain⟨X',hv'⟩:=hlv
   exact Lv.all hF B (A++[n]) _ X' (loS f d BS s n) _ T (hI.snoc a b c) (by simp[hS]) hlw hv' (by simpa using hl.2) (fun m hm=>ha m (by simp[hm])) h
  ·rename_i h1;exact absurd (congrArg Prod.snd h) h1
theorem aOu {NM:List aM}{NS:List Nd}(h:jZ f d NM BS NS root=0)(hF:Fits f d v):∃ X,Lv f d v (vaR f d v BS NS []) (pF f d BS NS).1 (pF f d BS NS).2 X:=by
 obtain⟨a1,a2,a3,a4,-⟩:=nY.1 h
 obtain⟨es,ex,hD⟩:=iK.1 a2
 exact Lv.all hF NS [] [] [] ([],[]) [] _ ⟨rfl,fun i hi=>by simp at hi⟩ rfl aC3 ⟨rfl,rfl,fun j hj=>by simp at hj⟩ hD.wl (fun n hn h3=>xZ h hn h3) (Prod.ext rfl a4)
structure LoV where
 er:Int
 f:Int
 d:Int
 I:List Cde.In
 o:Int
noncomputable def loV (f d:Int)(NM:List aM)(BS:List Int)(NS:List Nd)(root:Int):LoV :=
 if jZ f d NM BS NS root=0 then⟨0,f,d,(pF f d BS NS).2,(pF f d BS NS).1.getD root.toNat 0⟩ else⟨jZ f d NM BS NS root,0,0,[],0⟩
def LoP (w:World)(Z:LoV)(e:Ending)(W':World):Prop :=
 ∃ a c,e=.returned (.tuple #[.agg (Cde.cd Z.f Z.d a Z.I.length c Z.o),.i Z.er])/\W'.ownsRow w.heap.size 132 6 (.slice a Z.I.length c) Z.I.length (Cde.dL Z.I)/\Below w.heap.size w W'
end Go.Proofs.YticnbcfmbhjbgaaGreatDoor
