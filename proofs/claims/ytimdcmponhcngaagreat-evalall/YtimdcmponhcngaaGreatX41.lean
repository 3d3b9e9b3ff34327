import Derived.Test.YtimdcmponhcngaaGreatX40
import Derived.Test.YtimdcmponhcngaaGreatX03
namespace Go.Proofs.YtimdcmponhcngaaGreat
open Go.RowKit Go.IntWalk Lx Pz
set_option linter.unusedVariables false
set_option maxRecDepth 100000
set_option maxHeartbeats 16000000
theorem sound_root {NM:List Txt}{BS:List Int}{NS:List Nd}{root:Int}(h:chkP NM BS NS root=true):0<=root/\root.toNat < NS.length/\NS.length<=1024:=by
 obtain⟨es,ex,hD⟩:=chk_dec.1 h
 have h1:=hD.root
 have h2:1<=NS.length:=by rw[hD.nodes,List.length_append,E.flat_len];have:=ex.size_pos;omega
 have:=hD.few
 omega
theorem veval_any (f d:Int)(v:Wd){W:World}{na ba da pa:Option Addr}{nl nc bl bc dl dc pl pc:Nat}{root:Int}{NM:List Txt}{BS:List Int}{NS:List Nd}(hX:Tx W na nl nc NM)(hB:Iz W ba bl bc BS)(hN:Nz W da dl dc NS)(hs:∀ s ∈ NM,s.length<=9223372036854775807)(hP:Knd.Ints W pa pl pc v.ps) :
  Calls Tryz.prog 11 #[.agg (kdA f d),.agg (tr4 (.slice na nl nc) (.slice ba bl bc) (.slice da dl dc) (.int .i64 root)),.agg (wdA v pa pl pc)] W fun e W' =>
   e=.returned (.tuple #[.int .i64 (evV f d v NM BS NS root),.int .i64 (evE f d v NM BS NS root)])/\Below W.heap.size W W':=by
 have hb1:=bel1 W (.cells (kdA f d) 23)
 have hb2:=bel hb1 (bel1 (W.alloc (.cells (kdA f d) 23)) (.cells (tr4 (.slice na nl nc) (.slice ba bl bc) (.slice da dl dc) (.int .i64 root)) 28))
 have hb3:=bel hb2 (bel1 ((W.alloc (.cells (kdA f d) 23)).alloc (.cells (tr4 (.slice na nl nc) (.slice ba bl bc) (.slice da dl dc) (.int .i64 root)) 28)) (.cells (wdA v pa pl pc) 30))
 have HT0:Hid (HasC (((W.alloc (.cells (kdA f d) 23)).alloc (.cells (tr4 (.slice na nl nc) (.slice ba bl bc) (.slice da dl dc) (.int .i64 root)) 28)).alloc (.cells (wdA v pa pl pc) 30)) (W.heap.size+1) 28 (tr4 (.slice na nl nc) (.slice ba bl bc) (.slice da dl dc) (.int .i64 root))):=by
  have:=(HasC.new (W.alloc (.cells (kdA f d) 23)) 28 (tr4 (.slice na nl nc) (.slice ba bl bc) (.slice da dl dc) (.int .i64 root))).alloc (.cells (wdA v pa pl pc) 30)
  simp only[World.size_alloc] at this
  exact hide this
 have HB0:=hide hb3
 have HA:=hide (vall_any f d v (root:=root) (hX.later hb3) (hB.later hb3) (hN.later hb3) hs (hP.later hb3))
 clear hb1 hb2 hb3 hX hB hN hP
 obtain⟨R,hR⟩:∃ R,evV f d v NM BS NS root=R:=⟨_,rfl⟩
 obtain⟨E,hE⟩:∃ E,evE f d v NM BS NS root=E:=⟨_,rfl⟩
 rw[hR,hE]
 have HR:=hide hR
 have HE:=hide hE
 clear hR hE
 go_enter Tryz.func11,Tryz.ntmps11
 go_wp2_with fail
 refine HA.out.mono ?_
 rintro e V1 (⟨he,rfl,hb⟩|⟨he,g,rfl,-,hG,hb⟩)
 ·rw[HE.out] at he ⊢
  have h1:(E != 0)=true:=by simpa using he
  have hz:R=0:=by rw[<-HR.out];unfold evV;rw[HE.out,if_neg he]
  subst hz
  have HB1:=hide (bel HB0.out hb)
  clear hb he HA HB0 HT0
  go_wp2_with fail
  go_ret2
  exact⟨rfl,HB1.out⟩
 ·have h2:=HE.out
  rw[he] at h2
  subst h2
  obtain⟨r0,r1,r2⟩:=sound_root (ck_sound (evE_zero.1 he).1)
  have hr:R=(vaR f d v BS NS []).getD root.toNat 0:=by rw[<-HR.out];unfold evV;rw[if_pos he]
  obtain⟨q,rfl⟩:∃ q:Nat,root=q:=⟨root.toNat,by omega⟩
  simp only[Int.toNat_natCast] at r1 hr
  have s0:=inA_get (vaR f d v BS NS []) q (by rw[vaR_len];simpa using r1)
  rw[<-hr] at s0
  have c0:=hG.cell q s0
  have t3:=(HT0.out.below hb).cell 3 rfl
  have HB1:=hide (bel HB0.out hb)
  have i0:(0:Int)<=q:=by omega
  have i1:(q:Int) < NS.length:=by omega
  clear hb he HA HB0 HT0 s0 hr hG r0 r1 r2 HE HR
  go_wp2_with fail
  go_ret2
  exact⟨rfl,HB1.out⟩
theorem run_core (f d:Int)(v:Wd){s:ByteArray}(Bad:Prop)(Good:List Txt->List E->E->Prop)
  (HP0:∀ w,Calls Tryz.prog 19 #[.string s] w fun e W'=>(Bad/\e=.returned (.tuple #[.agg nil4,.int .i64 10])/\Below w.heap.size w W') \/
   ∃ NM es ex na nc ba bc da dc,Good NM es ex/\Dec NM (bdL es 0) (nodesOf es ex) (rootOf es ex) es ex /\
   e=.returned (.tuple #[.agg (tr4 (.slice na es.length nc) (.slice ba es.length bc) (.slice da (szL es+ex.size) dc) (.int .i64 (rootOf es ex))),.int .i64 0])/\Tx W' na es.length nc NM/\Iz W' ba es.length bc (bdL es 0) /\
   Nz W' da (szL es+ex.size) dc (nodesOf es ex)/\Below w.heap.size w W')
  {W:World} {pa:Option Addr} {pl pc:Nat} (hP:Knd.Ints W pa pl pc v.ps) :
  Calls Tryz.prog 24 #[.agg (kdA f d),.string s,.agg (wdA v pa pl pc)] W fun e W'=>((Bad/\e=.returned (.tuple #[.int .i64 0,.int .i64 10])) \/
   ∃ NM es ex,Good NM es ex/\Dec NM (bdL es 0) (nodesOf es ex) (rootOf es ex) es ex /\
    e=.returned (.tuple #[.int .i64 (evV f d v NM (bdL es 0) (nodesOf es ex) (rootOf es ex)),.int .i64 (evE f d v NM (bdL es 0) (nodesOf es ex) (rootOf es ex))]))/\Below W.heap.size W W':=by
 have HP:=hide HP0
 have hb1:=bel1 W (.cells (kdA f d) 23)
 have HB0:=hide (bel hb1 (bel1 (W.alloc (.cells (kdA f d) 23)) (.cells (wdA v pa pl pc) 30)))
 have HK0:=hide ((HasC.new W 23 (kdA f d)).alloc (.cells (wdA v pa pl pc) 30))
 have HW0:Hid (HasC ((W.alloc (.cells (kdA f d) 23)).alloc (.cells (wdA v pa pl pc) 30)) (W.heap.size+1) 30 (wdA v pa pl pc)):=by
  have:=HasC.new (W.alloc (.cells (kdA f d) 23)) 30 (wdA v pa pl pc)
  simp only[World.size_alloc] at this
  exact hide this
 have HPI:=hide hP
 clear hb1 HP0 hP
 go_enter Tryz.func24,Tryz.ntmps24
 go_wp2_with fail
 refine(HP.out _).mono ?_
 rintro e V1 (⟨hbad,rfl,hb⟩|⟨NM,es,ex,na,nc,ba,bc,da,dc,hgood,hD,rfl,hX,hI,hN,hb⟩)
 ·have HBd:=hide hbad
  have HB1:=hide (bel HB0.out hb)
  clear hbad hb HP HB0 HK0 HW0
  go_wp2_with fail
  go_ret2
  exact⟨.inl ⟨HBd.out,rfl⟩,bel HB1.out (bel1 _ _)⟩
 ·have hb2:=bel1 V1 (.cells (tr4 (.slice na es.length nc) (.slice ba es.length bc) (.slice da (szL es+ex.size) dc) (.int .i64 (rootOf es ex))) 28)
  have HB1:=hide (bel (bel HB0.out hb) hb2)
  have HC:=hide (veval_any f d v (root:=rootOf es ex) (hX.later hb2) (hI.later hb2) (hN.later hb2) (nm_short hD.ok) (HPI.out.later HB1.out))
  obtain⟨k0,k1,-,-⟩:=two_of (HK0.out.below hb)
  obtain⟨w0,w1,w2,w3⟩:=four_of (HW0.out.below hb)
  have hz0:=(HK0.out.below hb).lt
  have hz1:=(HW0.out.below hb).lt
  obtain⟨R,hR⟩:∃ R,evV f d v NM (bdL es 0) (nodesOf es ex) (rootOf es ex)=R:=⟨_,rfl⟩
  obtain⟨E,hE⟩:∃ E,evE f d v NM (bdL es 0) (nodesOf es ex) (rootOf es ex)=E:=⟨_,rfl⟩
  rw[hR,hE] at HC
  have HR:=hide hR
  have HE:=hide hE
  have HD:=hide hD
  have HGd:=hide hgood
  clear hX hI hN hb hb2 hD HP HB0 HW0 HK0 hR hE hgood
  go_wp2_with fail
  refine HC.out.mono ?_
  rintro e V2 ⟨rfl,hb⟩
  have HB2:=hide (bel HB1.out hb)
  clear hb HC HB1
  go_wp2_with fail
  go_ret2
  exact⟨.inr ⟨NM,es,ex,HGd.out,HD.out,by rw[HR.out,HE.out];rfl⟩,HB2.out⟩
theorem run_dec (f d:Int)(v:Wd){s:ByteArray}{A:List Tk}{NM:List Txt}{es:List E}{ex:E}(ha:ak (bs s)=some A)(hl:s.size<=1024)(hg:GP [] [] A (NM,es,ex)){W:World}{pa:Option Addr}{pl pc:Nat}(hP:Knd.Ints W pa pl pc v.ps) :
  Calls Tryz.prog 24 #[.agg (kdA f d),.string s,.agg (wdA v pa pl pc)] W fun e W' =>
   e=.returned (.tuple #[.int .i64 (evV f d v NM (bdL es 0) (nodesOf es ex) (rootOf es ex)),.int .i64 (evE f d v NM (bdL es 0) (nodesOf es ex) (rootOf es ex))])/\Below W.heap.size W W':=by
 refine(run_core f d v (s:=s) False (fun a b c=>a=NM/\b=es/\c=ex) (fun w=>?_) hP).mono ?_
 ·refine(parse_dec ha hl hg w).mono ?_
  rintro e W1 ⟨na,nc,ba,bc,da,dc,h⟩
  exact .inr ⟨NM,es,ex,na,nc,ba,bc,da,dc,⟨rfl,rfl,rfl⟩,h⟩
 ·rintro e W1 ⟨⟨h,-⟩|⟨a,b,c,⟨rfl,rfl,rfl⟩,-,rfl⟩,hb⟩
  ·exact h.elim
  ·exact⟨rfl,hb⟩
theorem own_ne3 {W:World}{base size b n:Nat}{t e:TypeId}{v:Value}{xs:List Value}{cs:Array Value}(h:W.ownsRow base e size v n xs)(hb:HasC W b t cs)(ht:t≠e):v.ownBlock≠some b:=by
 intro hk
 obtain⟨-,cs',fr,h2⟩:=owns_block h b hk
 rw[hb] at h2
 cases h2
 exact ht rfl
theorem own_put1 {V:World}{base b:Nat}{e t:TypeId}{size n:Nat}{v:Value}{xs:List Value}{cs:Array Value}(h:V.ownsRow base e size v n xs)(hb:HasC V b t cs)(ht:t≠e)(i:Nat)(x:Value):(V.setCell ⟨b,i,none⟩ x).ownsRow base e size v n xs:=by
 refine ownsRow_setCell_other h (a:=⟨b,i,none⟩) ?_ x
 exact own_ne3 h hb ht
theorem Ls.put {w W:World}{v:Value}{L:List Int}{b:Nat}{t:TypeId}{cs:Array Value}(h:Ls w W v L)(hb:HasC W b t cs)(ht:t≠3)(hw:w.heap.size<=b)(i:Nat)(x:Value):Ls w (W.setCell ⟨b,i,none⟩ x) v L :=
 ⟨own_put1 h.a hb ht i x,h.bel.setCell (p:=⟨b,i,none⟩) hw x⟩
theorem list_ls2 {w W:World}{v:Value}{L:List Int}{ops:Array Oper}{rest:List Oper}{o:Oper}{a:Act}{Q:Exit->Act->World->Prop}
  (hgd:o.guard=none) (s x:Operand) (ho:o.op=.call { callee:=.builtin .append,args:=#[s,x],argTypes:=#[25,25] })
  (hs:a.eval s=v) (hen:Ls w W v L) (b:Nat) (p:Int) (hx:a.eval x=.slice (some ⟨b,0,none⟩) 1 1) (hc:HasC W b 3 #[.int .i64 p]) (h3:L.length<=2000000)
  (h:∀ g cap w',Ls w w' (.slice (some ⟨g,0,none⟩) (L.length+1) cap) (L++[p])->Kp [3] W w'->wpList Tryz.prog ops Q rest (a.put o.dst (.slice (some ⟨g,0,none⟩) (L.length+1) cap)) w') :
  wpList Tryz.prog ops Q (o::rest) a W :=
 list_in hgd s x ho hs hen.a hen.bel.size b p hx hc h3 fun g cap w' h1 h2 h4=>h g cap w' ⟨h1,h4 w hen.bel rfl⟩ h2
abbrev wd0 (v:Value):Array Value:=#[.int .i64 0,.int .i64 0,.int .i64 0,v]
def FlP (w:World)(m:Nat)(x:Int)(e:Ending)(W':World):Prop :=
 ∃ v,e=.returned (.agg (wd0 v))/\Ls w W' v (List.replicate m x)
theorem flat_any (f d x:Int){m:Nat}(hm:Knd.countZ f d=(m:Int))(W:World):Calls Tryz.prog 30 #[.agg (kdA f d),.int .i64 x] W (FlP W m x):=by
 have hm4:m<=44:=by
  have:Knd.countZ f d<=44:=by unfold Knd.countZ;repeat' split <;> omega
  omega
 have HC:=hide fun W=>Knd.rcount_any f d W
 rw[hm] at HC
 clear hm
 have hb1:=bel1 W (.cells (kdA f d) 23)
 have hb2:=bel hb1 (bel1 (W.alloc (.cells (kdA f d) 23)) (.cells (wd0 (.slice none 0 0)) 30))
 have hb3:=bel hb2 (bel1 ((W.alloc (.cells (kdA f d) 23)).alloc (.cells (wd0 (.slice none 0 0)) 30)) (.cells (wd0 (.slice none 0 0)) 30))
 have HK0:=hide (((HasC.new W 23 (kdA f d)).alloc (.cells (wd0 (.slice none 0 0)) 30)).alloc (.cells (wd0 (.slice none 0 0)) 30))
 have HR0:Hid (HasC (((W.alloc (.cells (kdA f d) 23)).alloc (.cells (wd0 (.slice none 0 0)) 30)).alloc (.cells (wd0 (.slice none 0 0)) 30)) (W.heap.size+1) 30 (wd0 (.slice none 0 0))):=by
  have:=(HasC.new (W.alloc (.cells (kdA f d) 23)) 30 (wd0 (.slice none 0 0))).alloc (.cells (wd0 (.slice none 0 0)) 30)
  simp only[World.size_alloc] at this
  exact hide this
 have HW0:Hid (HasC (((W.alloc (.cells (kdA f d) 23)).alloc (.cells (wd0 (.slice none 0 0)) 30)).alloc (.cells (wd0 (.slice none 0 0)) 30)) (W.heap.size+1+1) 30 (wd0 (.slice none 0 0))):=by
  have:=HasC.new ((W.alloc (.cells (kdA f d) 23)).alloc (.cells (wd0 (.slice none 0 0)) 30)) 30 (wd0 (.slice none 0 0))
  simp only[World.size_alloc] at this
  exact hide this
 have HL0:Hid (Ls W (((W.alloc (.cells (kdA f d) 23)).alloc (.cells (wd0 (.slice none 0 0)) 30)).alloc (.cells (wd0 (.slice none 0 0)) 30)) (.slice none 0 0) []):=hide ((Ls.start W).later hb3)
 clear hb1 hb2 hb3
 go_enter Tryz.func30,Tryz.ntmps30
 go_wp2_with fail
 go_loopw [6] (fun i wr=>∃(k:Nat) (sv:Value),k<=m/\i=.int .i64 k/\Hid (Ls W wr sv (List.replicate k x))/\Hid (HasC wr W.heap.size 23 (kdA f d))/\Hid (HasC wr (W.heap.size+1) 30 (wd0 (.slice none 0 0)))/\Hid (HasC wr (W.heap.size+1+1) 30 (wd0 sv))) (fun i _=>m-(intOf i).toNat)
 case atStart=>exact⟨0,_,Nat.zero_le _,rfl,HL0,HK0,HR0,HW0⟩
 case round =>
  obtain⟨k,sv,hk,rfl,HL,HK,HR,HW⟩:=hrel
  rename World=>V
  clear HL0 HK0 HR0 HW0
  obtain⟨k0,k1,-,-⟩:=two_of HK.out
  go_wp2_with fail
  refine(HC.out _).mono ?_
  rintro e V1 ⟨rfl,hb⟩
  have HL1:=hide (HL.out.later hb)
  have HK1:=hide (HK.out.below hb)
  have HR1:=hide (HR.out.below hb)
  have HW1:=hide (HW.out.below hb)
  clear hb HL HK HR HW k0 k1
  by_cases hlt:k < m
  ·have h1:decide ((k:Int) < (m:Int))=true:=by simpa using hlt
   obtain⟨w0,w1,w2,w3⟩:=four_of HW1.out
   have z2:=HW1.out.lt
   have HJ:Hid ((List.replicate k x).length=k):=hide (by simp)
   go_wp2_with (at_builtin;refine list_ls2 (w:=W) (L:=List.replicate k x) rfl _ _ rfl rfl (HL1.out.alloc _) _ x rfl (HasC.new _ _ _) (by rw[HJ.out];omega) ?_;intro g2 cap2 w2 HE2 HKp;rw[HJ.out] at HE2 ⊢;obtain⟨u0,u1,u2,u3⟩:=four_of ((HW1.out.alloc (.cells #[.int .i64 x] 3)).kp HKp (by decide));have u4:=((HW1.out.alloc (.cells #[.int .i64 x] 3)).kp HKp (by decide)).frozen 3)
   have HW2:=(HW1.out.alloc (.cells #[.int .i64 x] 3)).kp HKp (by decide)
   have HK2:=(HK1.out.alloc (.cells #[.int .i64 x] 3)).kp HKp (by decide)
   have HR2:=(HR1.out.alloc (.cells #[.int .i64 x] 3)).kp HKp (by decide)
   go_roundw
   case rel=>exact⟨k+1,.slice (some ⟨g2,0,none⟩) (k+1) cap2,by omega,by go_num,hide (by rw[List.replicate_succ'];exact HE2.put HW2 (by decide) (by omega) 3 _),hide (HK2.other (p:=⟨W.heap.size+1+1,3,none⟩) (by simp <;> omega) _),hide (HR2.other (p:=⟨W.heap.size+1+1,3,none⟩) (by simp <;> omega) _),hide (HW2.set 3 _)⟩
   case measure=>simp[intOf];omega
  ·obtain rfl:k=m:=by omega
   have h1:decide ((k:Int) < (k:Int))=false:=by simp
   obtain⟨va,vn,vc,rfl⟩:∃ a n c,sv=.slice a n c:=by
    rcases own_forms HL1.out.a with⟨h,-⟩|⟨g,c,h⟩
    ·exact⟨_,_,_,h⟩
    ·exact⟨_,_,_,h⟩
   obtain⟨w0,w1,w2,w3⟩:=four_of HW1.out
   obtain⟨r0,r1,r2,r3⟩:=four_of HR1.out
   have y0:=HR1.out.frozen 0
   have y1:=HR1.out.frozen 1
   have y2:=HR1.out.frozen 2
   have y3:=HR1.out.frozen 3
   go_wp2_with fail
   have s0:=HR1.out.set 0 (.int .i64 0)
   have s1:=s0.set 1 (.int .i64 0)
   have s2:=s1.set 2 (.int .i64 0)
   have s3:=s2.set 3 (.slice va vn vc)
   have c0:=s3.cell 0 rfl
   have c1:=s3.cell 1 rfl
   have c2:=s3.cell 2 rfl
   have c3:=s3.cell 3 rfl
   have l3:=(((HL1.out.put HR1.out (by decide) (by omega) 0 (.int .i64 0)).put s0 (by decide) (by omega) 1 (.int .i64 0)).put s1 (by decide) (by omega) 2 (.int .i64 0)).put s2 (by decide) (by omega) 3 (.slice va vn vc)
   exact bodyPost_ret (v:=.agg (wd0 (.slice va vn vc))) (by simp[results,Tryz.results30,go_sem,c0,c1,c2,c3]) rfl ⟨_,rfl,l3⟩
theorem wpAnyH_less {P:Program}{ops:Array Oper}{Q:Exit->Act->World->Prop}{md:Region.Mode}{S S':World->Prop}(hS:∀ w,S' w->S w):∀ {fuel:Nat} {listed:Array Bool} {a:Act} {w:World},wpAnyH P md ops Q S' fuel listed a w->wpAnyH P md ops Q S fuel listed a w
 | 0,_,_,_,h=>h
 | _+1,_,_,_,h=>⟨h.1,fun i hi=>wpOp_mono (fun _ _ h'=>⟨hS _ h'.1,wpAnyH_less hS h'.2⟩) (h.2 i hi)⟩
abbrev wnC (f d:Int)(v:Wd):Array Value:=#[.int .i64 v.x,.int .i64 v.y,.int .i64 v.c,.int .i64 (Knd.lowZ f d),.int .i64 (Knd.highZ f d),.int .i64 (Knd.borderZ f d)]
theorem wnC_at (f d:Int)(v:Wd):∀ k,k < 6->(wnC f d v)[k]?=some (.int .i64 (inpV f d v (k:Int)))
 | 0,_=>rfl
 | 1,_=>rfl
 | 2,_=>rfl
 | 3,_=>rfl
 | 4,_=>rfl
 | 5,_=>rfl
 | k+6,h=>by omega
structure Iq (W V:World)(f d:Int)(v:Wd)(a:Option Addr)(n cap:Nat):Prop where
 k:HasC V W.heap.size 23 (kdA f d)
 w:HasC V (W.heap.size+1) 30 (wdA v a n cap)
 lo:Below W.heap.size W V
theorem Iq.below {W V V':World}{f d:Int}{v:Wd}{a:Option Addr}{n cap:Nat}(h:Iq W V f d v a n cap)(hb:Below V.heap.size V V'):Iq W V' f d v a n cap :=
 ⟨h.k.below hb,h.w.below hb,bel h.lo hb⟩
theorem Iq.five {W V:World}{f d:Int}{v:Wd}{a:Option Addr}{n cap:Nat}(h:Iq W V f d v a n cap):V.cell? ⟨W.heap.size,0,none⟩=some (.int .i64 f)/\V.cell? ⟨W.heap.size,1,none⟩=some (.int .i64 d)/\V.cell? ⟨W.heap.size+1,0,none⟩=some (.int .i64 v.x)/\V.cell? ⟨W.heap.size+1,1,none⟩=some (.int .i64 v.y)/\V.cell? ⟨W.heap.size+1,2,none⟩=some (.int .i64 v.c) :=
 ⟨h.k.cell 0 rfl,h.k.cell 1 rfl,h.w.cell 0 rfl,h.w.cell 1 rfl,h.w.cell 2 rfl⟩
theorem winput_any (f d k:Int)(v:Wd)(a:Option Addr)(n cap:Nat)(h0:0<=k)(h5:k<=5)(W:World) :
  Calls Tryz.prog 68 #[.agg (kdA f d),.agg (wdA v a n cap),.int .i64 k] W fun e W'=>e=.returned (.int .i64 (inpV f d v k))/\Below W.heap.size W W':=by
 have HLo:=hide fun W=>Knd.rlow_any f d W
 have HHi:=hide fun W=>Knd.rhigh_any f d W
 have HBo:=hide fun W=>Knd.rborder_any f d W
 obtain⟨j,rfl⟩:∃ j:Nat,k=j:=⟨k.toNat,by omega⟩
 have HAt:=hide (wnC_at f d v j (by omega))
 obtain⟨R,hR⟩:∃ R,inpV f d v (j:Int)=R:=⟨_,rfl⟩
 rw[hR] at HAt ⊢
 clear hR
 have i1:(j:Int) < 6:=by omega
 have hb0:=bel (bel1 W (.cells (kdA f d) 23)) (bel1 (W.alloc (.cells (kdA f d) 23)) (.cells (wdA v a n cap) 30))
 have HK0:=(HasC.new W 23 (kdA f d)).alloc (.cells (wdA v a n cap) 30)
 have HW0:HasC ((W.alloc (.cells (kdA f d) 23)).alloc (.cells (wdA v a n cap) 30)) (W.heap.size+1) 30 (wdA v a n cap):=by
  have:=HasC.new (W.alloc (.cells (kdA f d) 23)) 30 (wdA v a n cap)
  simp only[World.size_alloc] at this
  exact this
 have HS1:=hide ((Iq.mk HK0 HW0 hb0).below (below_drew _))
 clear hb0 HK0 HW0 h5
 go_enter Tryz.func68,Tryz.ntmps68
 go_wp2_with fail
 refine wp_region_held_drew (S:=fun w=>Iq W w f d v a n cap) (by kernel_rfl) HS1.out (fun _=>?_)
 refine wpAnyH_take (i:=0) (v:=.pointer (some ⟨W.heap.size+1,0,none⟩)) rfl (by kernel_rfl) (by kernel_rfl) (by kernel_rfl) (fun _ _ _ h=>h) (Or.inl ⟨by rfl,fun w hS=>by obtain⟨a0,a1,a2,a3,a4⟩:=hS.five;go_simp⟩) HS1.out ?_
 refine wpAnyH_take (i:=1) (v:=.int .i64 v.x) rfl (by kernel_rfl) (by kernel_rfl) (by kernel_rfl) (fun _ _ _ h=>h) (Or.inl ⟨by rfl,fun w hS=>by obtain⟨a0,a1,a2,a3,a4⟩:=hS.five;go_simp⟩) HS1.out ?_
 refine wpAnyH_take (i:=2) (v:=.pointer (some ⟨W.heap.size+1,1,none⟩)) rfl (by kernel_rfl) (by kernel_rfl) (by kernel_rfl) (fun _ _ _ h=>h) (Or.inl ⟨by rfl,fun w hS=>by obtain⟨a0,a1,a2,a3,a4⟩:=hS.five;go_simp⟩) HS1.out ?_
 refine wpAnyH_take (i:=3) (v:=.int .i64 v.y) rfl (by kernel_rfl) (by kernel_rfl) (by kernel_rfl) (fun _ _ _ h=>h) (Or.inl ⟨by rfl,fun w hS=>by obtain⟨a0,a1,a2,a3,a4⟩:=hS.five;go_simp⟩) HS1.out ?_
 refine wpAnyH_take (i:=4) (v:=.pointer (some ⟨W.heap.size+1,2,none⟩)) rfl (by kernel_rfl) (by kernel_rfl) (by kernel_rfl) (fun _ _ _ h=>h) (Or.inl ⟨by rfl,fun w hS=>by obtain⟨a0,a1,a2,a3,a4⟩:=hS.five;go_simp⟩) HS1.out ?_
 refine wpAnyH_take (i:=5) (v:=.int .i64 v.c) rfl (by kernel_rfl) (by kernel_rfl) (by kernel_rfl) (fun _ _ _ h=>h) (Or.inl ⟨by rfl,fun w hS=>by obtain⟨a0,a1,a2,a3,a4⟩:=hS.five;go_simp⟩) HS1.out ?_
 refine wpAnyH_take (i:=6) (v:=.agg #[.int .i64 f,.int .i64 d]) rfl (by kernel_rfl) (by kernel_rfl) (by kernel_rfl) (fun _ _ _ h=>h) (Or.inl ⟨by rfl,fun w hS=>by obtain⟨a0,a1,a2,a3,a4⟩:=hS.five;go_simp⟩) HS1.out ?_
 refine wpAnyH_take (i:=8) (v:=.agg #[.int .i64 f,.int .i64 d]) rfl (by kernel_rfl) (by kernel_rfl) (by kernel_rfl) (fun _ _ _ h=>h) (Or.inl ⟨by rfl,fun w hS=>by obtain⟨a0,a1,a2,a3,a4⟩:=hS.five;go_simp⟩) HS1.out ?_
 refine wpAnyH_take (i:=10) (v:=.agg #[.int .i64 f,.int .i64 d]) rfl (by kernel_rfl) (by kernel_rfl) (by kernel_rfl) (fun _ _ _ h=>h) (Or.inl ⟨by rfl,fun w hS=>by obtain⟨a0,a1,a2,a3,a4⟩:=hS.five;go_simp⟩) HS1.out ?_
 refine wpAnyH_take (i:=13) (v:=.int .i64 (j:Int)) rfl (by kernel_rfl) (by kernel_rfl) (by kernel_rfl) (fun _ _ _ h=>h) (Or.inl ⟨by rfl,fun w hS=>by obtain⟨a0,a1,a2,a3,a4⟩:=hS.five;go_simp⟩) HS1.out ?_
 refine wpAnyH_ready (rs:=[7]) (by kernel_rfl) (by simp) (AllReadyH.cons rfl (fun K hK=>?_) AllReadyH.nil)
 go_simp
 refine(HLo.out _).mono ?_
 rintro r U1 ⟨rfl,hb⟩
 have HS2:=hide (HS1.out.below hb)
 clear hb HS1 HLo
 refine hK.out _ _ HS2.out (fun _=>?_)
 clear hK K
 refine wpAnyH_ready (rs:=[9]) (by kernel_rfl) (by simp) (AllReadyH.cons rfl (fun K hK=>?_) AllReadyH.nil)
 go_simp
 refine(HHi.out _).mono ?_
 rintro r U2 ⟨rfl,hb⟩
 have HS3:=hide (HS2.out.below hb)
 clear hb HS2 HHi
 refine hK.out _ _ HS3.out (fun _=>?_)
 clear hK K
 refine wpAnyH_ready (rs:=[11]) (by kernel_rfl) (by simp) (AllReadyH.cons rfl (fun K hK=>?_) AllReadyH.nil)
 go_simp
 refine(HBo.out _).mono ?_
 rintro r U3 ⟨rfl,hb⟩
 have HS4:=hide (HS3.out.below hb)
 clear hb HS3 HBo
 refine hK.out _ _ HS4.out (fun _=>?_)
 clear hK K
 refine wpAnyH_ready (rs:=[12]) (by kernel_rfl) (by simp) (AllReadyH.cons rfl (fun K hK=>?_) AllReadyH.nil)
 go_simp
 have HS5:=hide (And.intro (HS4.out.below (bel1 U3 (.cells (wnC f d v) 3))) ((HasC.new U3 3 (wnC f d v)).cell j HAt.out))
 clear HS4 HAt
 refine hK.out _ _ HS5.out.1 (fun _=>?_)
 clear hK K
 refine wpAnyH_less (S':=fun w=>Iq W w f d v a n cap/\w.cell? ⟨U3.heap.size,j,none⟩=some (.int .i64 R)) (fun _ h=>h.1) ?_
 refine wpAnyH_take (i:=14) (v:=.pointer (some ⟨U3.heap.size,j,none⟩)) rfl (by kernel_rfl) (by kernel_rfl) (by kernel_rfl) (fun _ _ _ h=>h) (Or.inl ⟨by rfl,fun w hS=>by have hm:=hS.2;go_simp⟩) HS5.out ?_
 refine wpAnyH_take (i:=15) (v:=.int .i64 R) rfl (by kernel_rfl) (by kernel_rfl) (by kernel_rfl) (fun _ _ _ h=>h) (Or.inl ⟨by rfl,fun w hS=>by have hm:=hS.2;go_simp⟩) HS5.out ?_
 refine wpAnyH_take (i:=16) (v:=.int .i64 R) rfl (by kernel_rfl) (by kernel_rfl) (by kernel_rfl) (fun _ _ _ h=>h) (Or.inl ⟨by rfl,fun w hS=>by have hm:=hS.2;go_simp⟩) HS5.out ?_
 refine wpAnyH_done (by kernel_rfl) ?_ _
 go_simp
 go_wp2_with fail
 go_ret
 exact⟨rfl,HS5.out.1.lo⟩
theorem varity_any (op:Int)(W:World):Calls Tryz.prog 62 #[.int .i64 op] W fun e W'=>e=.returned (.int .i64 (arZ op))/\W'=W:=by
 have key:(op < 1/\arZ op=-1)\/(op=4/\arZ op=-1)\/(33 < op/\arZ op=-1)\/(1<=op/\op < 4/\arZ op=0)\/(5<=op/\op < 8/\arZ op=1)\/(28 < op/\op<=33/\arZ op=1)\/(8<=op/\op < 26/\arZ op=2)\/(26<=op/\op<=28/\arZ op=3):=by
  unfold arZ
  repeat' split
  all_goals omega
 rcases key with⟨h1,h2⟩|⟨h1,h2⟩|⟨h1,h2⟩|⟨h1,h3,h2⟩|⟨h1,h3,h2⟩|⟨h1,h3,h2⟩|⟨h1,h3,h2⟩|⟨h1,h3,h2⟩
 all_goals
  rw[h2]
  clear h2
  have h4:(op==4)=decide (op=4):=by rfl
  go_enter Tryz.func62,Tryz.ntmps62
  go_wp2
  all_goals
   go_ret
   exact⟨rfl,rfl⟩
def wkS (sub:Int->Int->Option (List Int))(root n ar:Int)(i:Nat)(p:Int)(out:List Int):Option (List Int) :=
 if ar<=i then(if p=0 then some out else none)
 else if root<=p then none
 else match sub p (n-out.length-1) with
  | none=>none
  | some l=>if n<=((out++l).length:Int) then none else some (out++l)
def prW (x:Nd)(i:Nat):Int:=if i=0 then x.a else if i=1 then x.b else x.c
def wkI (sub:Int->Int->Option (List Int))(root n:Int)(x:Nd):Nat->Option (List Int)
 | 0=>some []
 | i+1=>(wkI sub root n x i).bind (wkS sub root n (arZ x.op) i (prW x i))
def wk (NS:List Nd):Nat->Int->Int->Option (List Int)
 | 0,_,_=>none
 | f+1,root,n=>if root < 0\/(NS.length:Int)<=root\/n < 1 then none else(wkI (wk NS f) root n (NS.getD root.toNat n0) 3).map (·++[root])
theorem wkS_lt {sub:Int->Int->Option (List Int)}{root n ar:Int}{i:Nat}{p:Int}{out out':List Int}(h:wkS sub root n ar i p out=some out')(hl:(out.length:Int) < n):(out'.length:Int) < n:=by
 unfold wkS at h
 split at h
 ·split at h
  ·cases h;exact hl
  ·cases h
 ·split at h
  ·cases h
  ·split at h
   ·cases h
   ·split at h
    ·cases h
    ·rename_i hh;cases h;omega
theorem wkI_lt {sub:Int->Int->Option (List Int)}{root n:Int}{x:Nd}(hn:1<=n):∀(i:Nat) (l:List Int),wkI sub root n x i=some l->(l.length:Int) < n
 | 0,l,h=>by cases h;simp;omega
 | i+1,l,h=>by
  simp only[wkI] at h
  cases hs:wkI sub root n x i with
  | none=>rw[hs] at h;cases h
  | some o=>rw[hs] at h;exact wkS_lt h (wkI_lt hn i o hs)
theorem wk_len {NS:List Nd}{f:Nat}{root n:Int}{l:List Int}(h:wk NS f root n=some l):0 < l.length/\(l.length:Int)<=n:=by
 cases f with
 | zero=>cases h
 | succ f =>
  unfold wk at h
  split at h
  ·cases h
  ·rename_i hc
   cases hs:wkI (wk NS f) root n (NS.getD root.toNat n0) 3 with
   | none=>rw[hs] at h;cases h
   | some o =>
    rw[hs] at h
    have:=wkI_lt (by omega) 3 o hs
    cases h
    rw[List.length_append,List.length_singleton]
    omega
theorem list_ins {W:World}{base:Nat}{A B:List Int}{v:Value}{ops:Array Oper}{rest:List Oper}{o:Oper}{a:Act}{Q:Exit->Act->World->Prop}
  (hgd:o.guard=none) (s x:Operand) (ho:o.op=.call { callee:=.builtin .append,args:=#[s,x],argTypes:=#[25,25] })
  (hs:a.eval s=v) (hO:W.ownsRow base 3 1 v A.length (in64 A)) (hbase:base<=W.heap.size) (q c b2:Nat) (hx:a.eval x=.slice (some ⟨q,0,none⟩) B.length c) (hc:W.ownsRow b2 3 1 (.slice (some ⟨q,0,none⟩) B.length c) B.length (in64 B)) (h3:A.length<=2000000) (h4:B.length<=2000000) (h0:0 < B.length)
  (h:∀ g cap w',w'.ownsRow base 3 1 (.slice (some ⟨g,0,none⟩) (A.length+B.length) cap) (A++B).length (in64 (A++B))->(∀ w0,Below base w0 W->Below base w0 w')->wpList Tryz.prog ops Q rest (a.put o.dst (.slice (some ⟨g,0,none⟩) (A.length+B.length) cap)) w') :
  wpList Tryz.prog ops Q (o::rest) a W:=by
 obtain⟨i0,hi0,hz0,hz1,hz2⟩:=info_parts infoInt
 refine wpList_append_lies W hgd s x 25 ho base 3 i0 _ 1 8 Tryz.underlying25 hi0 hz0 hz1 hz2 rfl (by omega) v A.length (in64 A) hs hO ⟨q,0,none⟩ B.length c (in64 B) hx (by simp) (hc.cells rfl) (by simp[Value.oneCell']) (by omega) (by unfold maxLen;omega) (by omega) hbase W.heap.size rfl ?_
 intro g cap w' hown hgrow hat hlt
 exact h g cap w' (by rw[List.length_append,show in64 (A++B)=in64 A++in64 B from List.map_append];exact hown) (fun w0 hb=>hb.grown hgrow hbase fun k hk=>(owns_block hO k hk).1)
theorem own_mono {w:World}{base base':Nat}{e:TypeId}{size:Nat}{v:Value}{n:Nat}{xs:List Value}(h:w.ownsRow base e size v n xs)(hb:base'<=base):w.ownsRow base' e size v n xs:=by
 obtain⟨h1,h2⟩:=h
 refine⟨h1,?_⟩
 rcases h2 with h2|⟨g,cap,cur,hv,hg,rest⟩
 ·exact .inl h2
 ·exact .inr ⟨g,cap,cur,hv,Nat.le_trans hb hg,rest⟩
def WkP (NS:List Nd)(f:Nat)(root n:Int)(W:World)(e:Ending)(W':World):Prop :=
 (wk NS f root n=none/\e=.returned (.slice none 0 0)/\Below W.heap.size W W') \/
 (∃ l g c,wk NS f root n=some l/\e=.returned (.slice (some ⟨g,0,none⟩) l.length c)/\W'.ownsRow W.heap.size 3 1 (.slice (some ⟨g,0,none⟩) l.length c) l.length (in64 l)/\Below W.heap.size W W')
theorem walk_any {NS:List Nd}{da:Option Addr}{dl dc:Nat}(hd:dl<=1024):∀(f:Nat) (root n:Int) (W:World),Nz W da dl dc NS->root < f->0<=n->n<=1024 ->
  Calls Tryz.prog 89 #[.slice da dl dc,.int .i64 root,.int .i64 n] W fun e W'=>WkP NS f root n W e W':=by
 intro f
 induction f with
 | zero =>
  intro root n W hN hr h0 h1
  have hr0:root < 0:=by omega
  have HF:Hid (wk NS 0 root n=none):=hide rfl
  clear hN hr
  go_enter Tryz.func89,Tryz.ntmps89
  go_wp2_with fail
  go_ret
  exact .inl ⟨HF.out,rfl,Below.refl _ _⟩
 | succ f ih =>
  intro root n W hN hr h0 h1
  have HIH:=hide ih
  have HNZ:=hide hN
  have HL:=hide hN.len
  have HR:=hide hr
  clear ih hN hr
  by_cases hbad:root < 0\/(dl:Int)<=root\/n < 1
  ·have HF:Hid (wk NS (f+1) root n=none):=hide (by unfold wk;rw[if_pos (by rw[HL.out];exact hbad)])
   rcases(show root < 0\/(0<=root/\(dl:Int)<=root)\/(0<=root/\root < dl/\n < 1) by omega) with h2|⟨h2,h3⟩|⟨h2,h3,h4⟩
   all_goals
    go_enter Tryz.func89,Tryz.ntmps89
    go_wp2_with fail
    go_ret
    exact .inl ⟨HF.out,rfl,Below.refl _ _⟩
  ·obtain⟨r,hr⟩:∃ r:Nat,root=r:=⟨root.toNat,by omega⟩
   subst hr
   have hrl:r < dl:=by omega
   have hn1:1<=n:=by omega
   have HF:Hid (wk NS (f+1) r n=(wkI (wk NS f) r n (NS.getD r n0) 3).map (·++[(r:Int)])):=hide (by rw[wk,if_neg (by rw[HL.out];exact hbad)];rfl)
   clear hbad
   obtain⟨g,off,rfl,hat⟩:=HNZ.out.at (by omega)
   obtain⟨e0,e1,e2,e3,e4,e5,e6,e7,e8⟩:=hat r hrl
   clear hat
   generalize NS.getD r n0=x at *
   have hi0:(0:Int)<=r:=by omega
   have hi1:(r:Int) < dl:=by omega
   have HC0:=hide ((HasC.new W 69 (ndA x)).alloc (.cells #[.int .i64 x.a,.int .i64 x.b,.int .i64 x.c] 3))
   have HC1:=hide (HasC.new (W.alloc (.cells (ndA x) 69)) 3 #[.int .i64 x.a,.int .i64 x.b,.int .i64 x.c])
   have HB0:=hide (bel (bel1 W (.cells (ndA x) 69)) (bel1 (W.alloc (.cells (ndA x) 69)) (.cells #[.int .i64 x.a,.int .i64 x.b,.int .i64 x.c] 3)))
   have HZ0:Hid (((W.alloc (.cells (ndA x) 69)).alloc (.cells #[.int .i64 x.a,.int .i64 x.b,.int .i64 x.c] 3)).heap.size=W.heap.size+2):=hide (by simp)
   rw[World.size_alloc] at HC1
   obtain⟨W2,hW2⟩:∃ W2,W2=(W.alloc (.cells (ndA x) 69)).alloc (.cells #[.int .i64 x.a,.int .i64 x.b,.int .i64 x.c] 3):=⟨_,rfl⟩
   rw[<-hW2] at HC0 HC1 HB0 HZ0
   have HW2:=hide hW2
   clear hW2
   have heq:∀(w:World) (a:Option Addr) (n c:Nat),(binOp .eql 25 (.slice a n c) (.slice none 0 0)).run Tryz.prog w=.ok (.bool a.isNone) w:=fun w a n c=>Lib.run_eql_slice_nil w 25 3 a n c 0 0 Tryz.underlying25
   go_enter Tryz.func89,Tryz.ntmps89
   go_wp2_with fail
   generalize decide ((r:Int) < 0)=dd1
   generalize decide (dl<=r)=dd2
   generalize decide (n < 1)=dd3
   go_loopw [7,10] (fun v i wr=>∃(k:Nat) (L:List Int),k<=3/\i=.int .i64 k/\Hid (wkI (wk NS f) r n x k=some L)/\Hid (wr.ownsRow (W.heap.size+2) 3 1 v L.length (in64 L))/\Hid (Below W2.heap.size W2 wr)) (fun _ i _=>3-(intOf i).toNat)
   case atStart=>exact⟨0,[],by omega,rfl,hide rfl,hide (World.ownsRow_nil _ _ _ _),hide (by rw[HW2.out];exact Below.refl _ _)⟩
   case round =>
    obtain⟨k,L,hk,rfl,HI,HO,HB⟩:=hrel
    rename World=>V
    obtain⟨va,vc,rfl,hIz⟩:=Iz.of_owns HO.out
    clear hIz
    have hLn:=wkI_lt hn1 k L HI.out
    by_cases hlt:k < 3
    ·obtain⟨f0,-⟩:=(HC0.out.below HB.out).nine
     have hp:V.cell? ⟨W.heap.size+1,k,none⟩=some (.int .i64 (prW x k)):=by
      refine(HC1.out.below HB.out).cell k ?_
      rcases(show k=0\/k=1\/k=2 by omega) with rfl|rfl|rfl <;> rfl
     have HS:Hid (wkI (wk NS f) r n x (k+1)=wkS (wk NS f) r n (arZ x.op) k (prW x k) L):=hide (by rw[wkI,HI.out];rfl)
     have HAr:=hide fun W=>varity_any x.op W
     have hk0:(0:Int)<=k:=by omega
     have hk3:(k:Int) < 3:=by omega
     have HNone:Hid (wkI (wk NS f) r n x (k+1)=none->wk NS (f+1) r n=none):=hide (by
      intro h
      rw[HF.out]
      have:∀ m,wkI (wk NS f) r n x (k+1+m)=none:=by
       intro m
       induction m with
       | zero=>exact h
       | succ m ih=>show (wkI (wk NS f) r n x (k+1+m)).bind _=none;rw[ih];rfl
      have h3:=this (3-(k+1))
      rw[show k+1+(3-(k+1))=3 by omega] at h3
      rw[h3]
      rfl)
     generalize arZ x.op=ar at *
     generalize prW x k=p at *
     unfold wkS at HS
     by_cases har:ar<=k
     ·rw[if_pos har] at HS
      by_cases hp0:p=0
      ·rw[if_pos hp0] at HS
       subst hp0
       go_wp2_with fail
       refine(HAr.out _).mono ?_
       rintro e V1 ⟨rfl,rfl⟩
       go_wp2_with fail
       go_roundw
       case rel=>exact⟨k+1,L,by omega,by go_num,hide HS.out,hide HO.out,hide HB.out⟩
       case measure=>simp[intOf];omega
      ·rw[if_neg hp0] at HS
       have HE:=hide (HNone.out HS.out)
       have hp1:(p != 0)=true:=by simpa using hp0
       go_wp2_with fail
       refine(HAr.out _).mono ?_
       rintro e V1 ⟨rfl,rfl⟩
       go_wp2_with fail
       go_ret
       exact .inl ⟨HE.out,rfl,HB0.out.trans (HB.out.mono HB0.out.size)⟩
     ·rw[if_neg har] at HS
      by_cases hpr:(r:Int)<=p
      ·rw[if_pos hpr] at HS
       have HE:=hide (HNone.out HS.out)
       go_wp2_with fail
       refine(HAr.out _).mono ?_
       rintro e V1 ⟨rfl,rfl⟩
       go_wp2_with fail
       go_ret
       exact .inl ⟨HE.out,rfl,HB0.out.trans (HB.out.mono HB0.out.size)⟩
      ·rw[if_neg hpr] at HS
       have HWk:=hide (HIH.out p (n-L.length-1) V (HNZ.out.later (HB0.out.trans (HB.out.mono HB0.out.size))) (by have:=HR.out;omega) (by omega) (by omega))
       go_wp2_with fail
       refine(HAr.out _).mono ?_
       rintro e V1 ⟨rfl,rfl⟩
       go_wp2_with fail
       refine(HWk.out).mono ?_
       rintro e V2 (⟨hw,rfl,hb2⟩|⟨l,g2,c2,hw,rfl,ho2,hb2⟩)
       ·rw[hw] at HS
        have HE:=hide (HNone.out HS.out)
        have HB2:=hide (bel HB.out hb2)
        clear hb2 hw
        go_wp2_with fail
        go_ret
        exact .inl ⟨HE.out,rfl,HB0.out.trans (HB2.out.mono HB0.out.size)⟩
       ·obtain⟨hl0,hl1⟩:=wk_len hw
        rw[hw] at HS
        have HB2:=hide (bel HB.out hb2)
        have HO2:=hide (owns_kp HO.out (Kp.of_below [] hb2) (by decide))
        have HL2:=hide ho2
        have hs2:W.heap.size+2<=V2.heap.size:=by have:=HB2.out.size;rw[HZ0.out] at this;exact this
        have HSZ:=hide hs2
        clear hb2 hw ho2 HO hs2
        by_cases hbig:n<=((L++l).length:Int)
        ·rw[List.length_append] at hbig
         omega
        ·have HE:=hide (HS.out.trans (if_neg hbig))
         have hbig2:¬n<=(L.length:Int)+(l.length:Int):=by rw[List.length_append] at hbig;omega
         clear hbig
         go_wp2_with (at_builtin;refine list_ins (A:=L) (B:=l) rfl _ _ rfl rfl HO2.out HSZ.out g2 c2 _ rfl HL2.out (by omega) (by omega) hl0 ?_;intro g4 cap4 V4 hown hold;have HB4:=hide (show Below W2.heap.size W2 V4 by have:=HB2.out;rw[HZ0.out] at this ⊢;exact hold W2 this);have HO4:=hide hown;clear hown hold)
         go_roundw
         case rel=>exact⟨k+1,L++l,by omega,by go_num,hide HE.out,hide HO4.out,hide HB4.out⟩
         case measure=>simp[intOf];omega
    ·obtain rfl:k=3:=by omega
     have HE:Hid (wk NS (f+1) r n=some (L++[(r:Int)])):=hide (by rw[HF.out,HI.out];rfl)
     have HSZ:Hid (W.heap.size+2<=V.heap.size):=hide (by have:=HB.out.size;rw[HZ0.out] at this;exact this)
     go_wp2_with (at_builtin;refine list_in (A:=L) rfl _ _ rfl rfl (HO.out.alloc _) (by have:=HSZ.out;simp;omega) _ r rfl (HasC.new _ _ _) (by omega) ?_;intro g4 cap4 V4 hown hk4 hold;have HB4:=hide (show Below W2.heap.size W2 V4 by have:=bel HB.out (bel1 V (.cells #[.int .i64 (r:Int)] 3));rw[HZ0.out] at this ⊢;exact hold W2 this HZ0.out);have HO4:=hide hown;clear hown hk4 hold)
     go_ret
     refine .inr ⟨L++[(r:Int)],g4,cap4,HE.out,?_,?_,HB0.out.trans (HB4.out.mono HB0.out.size)⟩
     ·rw[List.length_append];rfl
     ·have h4:=HO4.out
      rw[List.length_append] at h4 ⊢
      exact own_mono h4 (by omega)
end Go.Proofs.YtimdcmponhcngaaGreat
