import Derived.Test.YtngnnijpdjhelaaGreatX41
import Derived.Test.YtngnnijpdjhelaaGreatX03
namespace Go.Proofs.YtngnnijpdjhelaaGreat
open Go.RowKit Go.IntWalk Lx Pz
set_option linter.unusedVariables false
set_option maxRecDepth 100000
set_option maxHeartbeats 16000000
theorem mixedO:Tryz.prog.follows .mixedOrders=true:=by kernel_rfl
def Lu (BS:List Int)(NS:List Nd)(R:List Int):Prop:=∀ j,j < NS.length->(NS.getD j n0).op=4->(BS.getD (NS.getD j n0).k.toNat 0).toNat < j/\R.getD j 0=R.getD (BS.getD (NS.getD j n0).k.toNat 0).toNat 0
theorem Lu.step {f d:Int}{BS:List Int}{NS:List Nd}{s:List Int × List Cde.In}{n:Nd}(h:Lu BS NS s.1)(hl:s.1.length=NS.length)(hn:Wn BS NS.length n):Lu BS (NS++[n]) (loS f d BS s n).1:=by
 have hpre:∀ x j,j < NS.length->(s.1++[x]).getD j 0=s.1.getD j 0:=fun x j hj=>getI_preA (by omega)
 have key:∀ x,(n.op=4->x=s.1.getD (BS.getD n.k.toNat 0).toNat 0)->Lu BS (NS++[n]) (s.1++[x]):=by
  intro x hx j hj h4
  simp only[List.length_append,List.length_cons,List.length_nil] at hj
  by_cases e:j < NS.length
  ·rw[getI_preA e] at h4 ⊢
   obtain⟨a,b⟩:=h j e h4
   rw[hpre x j e,hpre x _ (by omega)]
   exact⟨a,b⟩
  ·obtain rfl:j=NS.length:=by omega
   rw[getI_last] at h4 ⊢
   have hu:=(hn.use h4).2.2.2
   refine⟨hu,?_⟩
   rw[hpre x _ hu,<-hx h4,<-hl,getI_last]
 unfold loS
 by_cases h4:n.op=4
 ·rw[if_pos h4];exact key _ fun _=>rfl
 ·rw[if_neg h4];exact key _ fun h=>absurd h h4
theorem Lu.run {f d:Int}{BS:List Int}:∀(B A:List Nd) (s:List Int × List Cde.In),Lu BS A s.1->s.1.length=A.length->Wl BS A.length B->Lu BS (A++B) (B.foldl (loS f d BS) s).1
 | [],A,s,h,_,_=>by simpa using h
 | n::B,A,s,h,hl,hw=>by
  have h2:=Lu.run (f:=f) (d:=d) B (A++[n]) (loS f d BS s n) (h.step hl hw.1) (by unfold loS;split <;> simp[hl]) (by simpa using hw.2)
  simpa using h2
theorem lu_all {f d:Int}{NM:List Txt}{BS:List Int}{NS:List Nd}{root:Int}(h:ckE f d NM BS NS root=0):Lu BS NS (loF f d BS NS).1:=by
 obtain⟨es,ex,hD⟩:=chk_dec.1 (ck_zero.1 h).2.1
 have:=Lu.run (f:=f) (d:=d) NS [] ([],[]) (fun j hj=>by simp at hj) rfl hD.wl
 rw[List.nil_append] at this
 exact this
theorem cn_next {NS:List Nd}{k:Nat}(h:k < NS.length):cn (NS.take (k+1))=if (NS.getD k n0).op=4 then cn (NS.take k) else cn (NS.take k)+1:=by
 rw[take_snoc n0 h,cn_snoc]
theorem oregister_any {BS:List Int}{NS:List Nd}{R:List Int}{I:List Cde.In}(hw:Lw NS R I)(hu:Lu BS NS R)(hwl:Wl BS 0 NS)(nv:Value)(hnv:∃ a k c,nv=.slice a k c)(root:Int){bl bc dl dc:Nat}{ba da:Option Addr}(hfew:dl<=1024):∀(i:Nat),i < dl->∀(W:World),Iz W ba bl bc BS->Nz W da dl dc NS ->
  Calls Tryz.prog 26 #[.agg (tr4 nv (.slice ba bl bc) (.slice da dl dc) (.int .i64 root)),.int .i64 i] W fun e W'=>e=.returned (.int .i64 (R.getD i 0))/\Below W.heap.size W W':=by
 intro i
 induction i using Nat.strongRecOn with
 | ind i ih =>
  intro hi W hB hN
  obtain⟨va,vk,vc,rfl⟩:=hnv
  have HIH:=hide ih
  have hb1:=bel1 W (.cells (tr4 (.slice va vk vc) (.slice ba bl bc) (.slice da dl dc) (.int .i64 root)) 28)
  have HT0:=hide (HasC.new W 28 (tr4 (.slice va vk vc) (.slice ba bl bc) (.slice da dl dc) (.int .i64 root)))
  have HB0:=hide hb1
  have HBI:=hide (hB.later hb1)
  have HNI:=hide (hN.later hb1)
  have hLN:=hN.len
  have hLB:=hB.len
  obtain⟨gn,off,rfl,hat⟩:=(hN.later hb1).at (by omega)
  obtain⟨e0,e1,e2,e3,e4,e5,e6,e7,e8⟩:=hat i hi
  have i0:(0:Int)<=i:=by omega
  have i1:(i:Int) < dl:=by omega
  have HWn:=hide (wl_at hwl (by rw[hLN];exact hi:i < NS.length))
  rw[Nat.zero_add] at HWn
  have HU:=hide (hu i (by rw[hLN];exact hi))
  have HO:=hide (hw.own i (by rw[hLN];exact hi))
  have HLN:=hide hLN
  have HHt:=hide hat
  clear ih hb1 hB hN hat hw hu hwl hLN
  by_cases h4:(NS.getD i n0).op=4
  ·obtain⟨u0,u1,u2,u3⟩:=HWn.out.use h4
   obtain⟨a0,a1⟩:=HU.out h4
   generalize NS.getD i n0=n at *
   have q4:(n.op==4)=true:=by simpa using h4
   obtain⟨kk,hkk⟩:∃ kk:Nat,n.k=(kk:Int):=⟨n.k.toNat,by omega⟩
   rw[hkk] at e4 u1 u2 u3 a0 a1
   simp only[Int.toNat_natCast] at u1 u2 u3 a0 a1
   obtain⟨bb,boff,rfl,hbb,hbc⟩:∃ b of',ba=some ⟨b,of',none⟩/\b < (W.alloc (.cells (tr4 (.slice va vk vc) (.slice ba bl bc) (.slice (some ⟨gn,off,none⟩) dl dc) (.int .i64 root)) 28)).heap.size/\(W.alloc (.cells (tr4 (.slice va vk vc) (.slice ba bl bc) (.slice (some ⟨gn,off,none⟩) dl dc) (.int .i64 root)) 28)).cell? ⟨b,of'+kk,none⟩=some (.int .i64 (BS.getD kk 0)):=by
    rcases HBI.out.cell with h0|⟨b,of',ha,hlb,hc⟩
    ·omega
    ·exact⟨b,of',ha,hlb,hc kk (by omega)⟩
   obtain⟨q,hq⟩:∃ q:Nat,BS.getD kk 0=(q:Int):=⟨(BS.getD kk 0).toNat,by omega⟩
   rw[hq] at hbc a0 a1
   simp only[Int.toNat_natCast] at a0 a1
   rw[a1]
   have HC:=hide fun(w:World) (h:Below (W.alloc (.cells (tr4 (.slice va vk vc) (.slice (some ⟨bb,boff,none⟩) bl bc) (.slice (some ⟨gn,off,none⟩) dl dc) (.int .i64 root)) 28)).heap.size (W.alloc (.cells (tr4 (.slice va vk vc) (.slice (some ⟨bb,boff,none⟩) bl bc) (.slice (some ⟨gn,off,none⟩) dl dc) (.int .i64 root)) 28)) w)=>HIH.out q a0 (by omega) w (HBI.out.later h) (HNI.out.later h)
   obtain⟨t0,t1,t2,t3⟩:=four_of HT0.out
   have w0:(kk:Int) < bl:=by omega
   have w2:(0:Int)<=kk:=by omega
   clear u0 u1 u2 u3 a0 a1 hq hkk h4 HU HO HWn HHt HIH HBI HNI
   go_enter Tryz.func26,Tryz.ntmps26
   go_wp2_with fail
   have y0:=cell_regrown t0
   have y1:=cell_regrown t1
   have y2:=cell_regrown t2
   have y3:=cell_regrown t3
   have y4:=cell_regrown e4
   have y5:=cell_regrown hbc
   refine wp_region_quiet_below mixedO (by kernel_rfl) ?_
   repeat (go_big_quiet_step (fail))
   go_big_quiet_step ((go_at_call 26;exact Calls.regrown_of (HC.out _ (below_regrown _ _ _))))
   repeat (go_big_quiet_step (fail))
   refine wpQuiet_nil ?_
   intro V6 hw'
   obtain⟨⟨dq,osq⟩,hw''⟩:=hw'
   have hb:=below_regrown (W.alloc (.cells (tr4 (.slice va vk vc) (.slice (some ⟨bb,boff,none⟩) bl bc) (.slice (some ⟨gn,off,none⟩) dl dc) (.int .i64 root)) 28)) dq osq
   simp only at hw''
   rw[<-hw''] at hb
   have HB6:=hide (bel HB0.out hb)
   clear hw'' hb y0 y1 y2 y3 y4 y5 t0 t1 t2 t3 e0 e1 e2 e3 e4 e5 e6 e7 e8 hbc
   go_wp2_with fail
   go_ret
   exact⟨rfl,HB6.out⟩
  ·obtain⟨o0,-,-⟩:=HO.out h4
   rw[o0]
   have q4:((NS.getD i n0).op==4)=false:=by simpa using h4
   generalize NS.getD i n0=n at *
   clear o0 h4 HO HU HWn HIH HBI
   obtain⟨t0,t1,t2,t3⟩:=four_of HT0.out
   go_enter Tryz.func26,Tryz.ntmps26
   go_wp2_with fail
   go_loop [5,6] (fun m j=>∃(k c:Nat),k<=i/\j=.int .i64 k/\m=.int .i64 c/\c<=k/\Hid (cn (NS.take k)=c)) (fun _ j=>i-(intOf j).toNat)
   case atStart=>exact⟨0,0,Nat.zero_le _,rfl,rfl,Nat.le_refl _,hide rfl⟩
   case round =>
    obtain⟨k,c,hk,rfl,rfl,hck,HC⟩:=hrel
    by_cases hlt:k < i
    ·obtain⟨f0,-⟩:=HHt.out k (by omega)
     have hct:=cn_next (NS:=NS) (k:=k) (by rw[HLN.out];omega)
     rw[HC.out] at hct
     generalize NS.getD k n0=m at *
     have j0:(0:Int)<=k:=by omega
     have j1:(k:Int) < dl:=by omega
     have j2:(k:Int) < i:=by omega
     clear e0 e1 e2 e3 e4 e5 e6 e7 e8
     by_cases h4:m.op=4
     ·rw[if_pos h4] at hct
      have HC2:=hide hct
      have p4:(m.op != 4)=false:=by simpa using h4
      clear hct h4
      go_wp2_with fail
      go_round
      case rel=>exact⟨k+1,c,by omega,by go_num,rfl,by omega,HC2⟩
      case measure=>simp[intOf];omega
     ·rw[if_neg h4] at hct
      have HC2:=hide hct
      have p4:(m.op != 4)=true:=by simpa using h4
      clear hct h4
      go_wp2_with fail
      go_round
      case rel=>exact⟨k+1,c+1,by omega,by go_num,by go_num,by omega,HC2⟩
      case measure=>simp[intOf];omega
    ·obtain rfl:k=i:=by omega
     have hc:=HC.out
     go_wp2_with fail
     go_ret
     exact⟨rfl,HB0.out⟩
theorem jcost_any (o:Int)(W:World):Calls Tryz.prog 58 #[.int .i64 o] W fun e W'=>e=.returned (.int .i64 (coZ o))/\W'=W:=by
 by_cases h1:o=4
 ·subst h1
  go_enter Tryz.func58,Tryz.ntmps58
  go_wp2
  go_ret
  exact⟨rfl,rfl⟩
 by_cases h2:o=11
 ·subst h2
  go_enter Tryz.func58,Tryz.ntmps58
  go_wp2
  go_ret
  exact⟨rfl,rfl⟩
 by_cases h3:o=12
 ·subst h3
  go_enter Tryz.func58,Tryz.ntmps58
  go_wp2
  go_ret
  exact⟨rfl,rfl⟩
 have e:coZ o=1:=by unfold coZ;rw[if_neg h1,if_neg h2,if_neg h3]
 rw[e]
 have e1:(o==4)=false:=by simpa using h1
 have e2:(o==11)=false:=by simpa using h2
 have e3:(o==12)=false:=by simpa using h3
 clear h1 h2 h3 e
 go_enter Tryz.func58,Tryz.ntmps58
 go_wp2
 go_ret
 exact⟨rfl,rfl⟩
def lfZ (f d op k:Int):(Int × Int) × Bool :=
 if op=1 then((k,k),true) else if op=2 then((Knd.inZ f d k).getD (0,0),(Knd.inZ f d k).isSome) else if op=3 then((Knd.lowZ f d,Knd.highZ f d),true) else((0,0),false)
abbrev lfV (Z:(Int × Int) × Bool):Value:=.tuple #[.agg #[.int .i64 Z.1.1,.int .i64 Z.1.2],.bool Z.2]
theorem jleaf_any (f d op k:Int)(W:World):Calls Tryz.prog 56 #[.agg (kdA f d),.int .i64 op,.int .i64 k] W fun e W'=>e=.returned (lfV (lfZ f d op k))/\Below W.heap.size W W':=by
 have hb1:=bel1 W (.cells (kdA f d) 23)
 have HB0:=hide (bel hb1 (bel1 (W.alloc (.cells (kdA f d) 23)) (.cells #[.int .i64 0,.int .i64 0] 103)))
 have HK0:=hide ((HasC.new W 23 (kdA f d)).alloc (.cells #[.int .i64 0,.int .i64 0] 103))
 have HR0:Hid (HasC ((W.alloc (.cells (kdA f d) 23)).alloc (.cells #[.int .i64 0,.int .i64 0] 103)) (W.heap.size+1) 103 #[.int .i64 0,.int .i64 0]):=by
  have:=HasC.new (W.alloc (.cells (kdA f d) 23)) 103 #[.int .i64 0,.int .i64 0]
  simp only[World.size_alloc] at this
  exact hide this
 have HBk:=hide hb1
 clear hb1
 by_cases h1:op=1
 ·subst h1
  rw[show lfZ f d 1 k=((k,k),true) from rfl]
  go_enter Tryz.func56,Tryz.ntmps56
  go_wp2
  exact bodyPost_ret (v:=.tuple #[.agg #[.int .i64 k,.int .i64 k],.bool true]) (by simp[results,Tryz.results56,go_sem]) rfl ⟨rfl,bel HBk.out (bel1 _ _)⟩
 by_cases h2:op=2
 ·subst h2
  rw[show lfZ f d 2 k=((Knd.inZ f d k).getD (0,0),(Knd.inZ f d k).isSome) from rfl]
  have HI:=hide fun w=>Knd.rinput_any f d k w
  unfold Knd.inV at HI
  obtain⟨⟨lo,hi⟩,hp⟩:∃ p,(Knd.inZ f d k).getD (0,0)=p:=⟨_,rfl⟩
  rw[hp] at HI ⊢
  generalize (Knd.inZ f d k).isSome=q at HI ⊢
  clear hp h1
  go_enter Tryz.func56,Tryz.ntmps56
  go_wp2_with fail
  refine(HI.out _).mono ?_
  rintro e V1 ⟨rfl,hb⟩
  have HB1:=hide (bel HB0.out hb)
  obtain⟨r0,r1,hB⟩:=put_two (HR0.out.below hb) HB1.out (by omega) lo hi
  obtain⟨c0,c1,c2,c3⟩:=two_of (HR0.out.below hb)
  have HR1:=hide r0
  have HR2:=hide r1
  clear hb r0 r1
  go_wp2_with fail
  have r0:=HR1.out
  have r1:=HR2.out
  exact bodyPost_ret (v:=.tuple #[.agg #[.int .i64 lo,.int .i64 hi],.bool q]) (by simp only[results,Tryz.results56];simp[go_sem,r0,r1]) rfl ⟨rfl,hB⟩
 by_cases h3:op=3
 ·subst h3
  rw[show lfZ f d 3 k=((Knd.lowZ f d,Knd.highZ f d),true) from rfl]
  have HLo:=hide fun w=>Knd.rlow_any f d w
  have HHi:=hide fun w=>Knd.rhigh_any f d w
  generalize Knd.lowZ f d=lo at *
  generalize Knd.highZ f d=hi at *
  have x0:=HK0.out.cell 0 rfl
  have y0:=HK0.out.cell 1 rfl
  clear h1 h2
  go_enter Tryz.func56,Tryz.ntmps56
  go_wp2_with fail
  obtain⟨W0,hW0⟩:∃ W0,((W.alloc (.cells (kdA f d) 23)).alloc (.cells #[.int .i64 0,.int .i64 0] 103))=W0:=⟨_,rfl⟩
  rw[hW0] at HR0 HK0 HB0 x0 y0 ⊢
  clear hW0
  have HRd:Hid (HasC W0.drew (W.heap.size+1) 103 #[.int .i64 0,.int .i64 0]):=HR0.out
  have HKd:Hid (HasC W0.drew W.heap.size 23 (kdA f d)):=HK0.out
  have HBd:=hide HB0.out.drew
  go_region_held3 (fun w'=>w'.cell? ⟨W.heap.size,0,none⟩=some (.int .i64 f)/\w'.cell? ⟨W.heap.size,1,none⟩=some (.int .i64 d))
   (first|exact⟨x0,y0⟩|exact⟨x3,y3⟩|exact⟨x4,y4⟩|exact⟨(oth2 HK4.out (by omega) _ _).cell 0 rfl,(oth2 HK4.out (by omega) _ _).cell 1 rfl⟩|go_keep)
   ((first
    | (go_at_call 82;refine(HLo.out _).mono ?_;rintro e w3 ⟨rfl,hb3⟩;have HR3:=hide (HRd.out.below hb3);have HK3:=hide (HKd.out.below hb3);have HB3:=hide (bel HBd.out hb3);clear hb3;obtain⟨x3,y3,-,-⟩:=two_of HK3.out)
    | (go_at_call 83;refine(HHi.out _).mono ?_;rintro e w4 ⟨rfl,hb4⟩;have HR4:=hide (HR3.out.below hb4);have HK4:=hide (HK3.out.below hb4);have HB4:=hide (bel HB3.out hb4);clear hb4;obtain⟨x4,y4,-,-⟩:=two_of HK4.out;obtain⟨g0,g1,g2,g3⟩:=two_of HR4.out)))
  all_goals
   obtain⟨r0,r1,hB⟩:=put_two HR4.out HB4.out (by omega) lo hi
   go_wp2
   exact bodyPost_ret (v:=.tuple #[.agg #[.int .i64 lo,.int .i64 hi],.bool true]) (by simp[results,Tryz.results56,go_sem,r0,r1]) rfl ⟨rfl,hB⟩
 have e1:(op==1)=false:=by simpa using h1
 have e2:(op==2)=false:=by simpa using h2
 have e3:(op==3)=false:=by simpa using h3
 rw[show lfZ f d op k=((0,0),false) by unfold lfZ;rw[if_neg h1,if_neg h2,if_neg h3]]
 clear h1 h2 h3
 go_enter Tryz.func56,Tryz.ntmps56
 go_wp2
 exact bodyPost_ret (v:=.tuple #[.agg #[.int .i64 0,.int .i64 0],.bool false]) (by simp[results,Tryz.results56,go_sem]) rfl ⟨rfl,bel HBk.out (bel1 _ _)⟩
theorem varity_any (op:Int)(W:World):Calls Tryz.prog 28 #[.int .i64 op] W fun e W'=>e=.returned (.int .i64 (arZ op))/\W'=W:=by
 have key:(op < 1/\arZ op=-1)\/(op=4/\arZ op=-1)\/(33 < op/\arZ op=-1)\/(1<=op/\op < 4/\arZ op=0)\/(5<=op/\op < 8/\arZ op=1)\/(28 < op/\op<=33/\arZ op=1)\/(8<=op/\op < 26/\arZ op=2)\/(26<=op/\op<=28/\arZ op=3):=by
  unfold arZ
  repeat' split
  all_goals omega
 rcases key with⟨h1,h2⟩|⟨h1,h2⟩|⟨h1,h2⟩|⟨h1,h3,h2⟩|⟨h1,h3,h2⟩|⟨h1,h3,h2⟩|⟨h1,h3,h2⟩|⟨h1,h3,h2⟩
 all_goals
  rw[h2]
  clear h2
  have h4:(op==4)=decide (op=4):=by rfl
  go_enter Tryz.func28,Tryz.ntmps28
  go_wp2
  all_goals
   go_ret
   exact⟨rfl,rfl⟩
def wkS (sub:Int->Int->Option (List Int))(root n ar:Int)(i:Nat)(p:Int)(out:List Int):Option (List Int) :=
 if ar<=i then(if p=0 then some out else none)
 else if root<=p then none
 else match sub p (n-out.length-1) with
  | none=>none
  | some l=>if n<=((out++l).length:Int) then none else some (out++l)
def prW (x:Nd)(i:Nat):Int:=if i=0 then x.a else if i=1 then x.b else x.c
def wkI (sub:Int->Int->Option (List Int))(root n:Int)(x:Nd):Nat->Option (List Int)
 | 0=>some []
 | i+1=>(wkI sub root n x i).bind (wkS sub root n (arZ x.op) i (prW x i))
def wk (NS:List Nd):Nat->Int->Int->Option (List Int)
 | 0,_,_=>none
 | f+1,root,n=>if root < 0\/(NS.length:Int)<=root\/n < 1 then none else(wkI (wk NS f) root n (NS.getD root.toNat n0) 3).map (·++[root])
theorem wkS_lt {sub:Int->Int->Option (List Int)}{root n ar:Int}{i:Nat}{p:Int}{out out':List Int}(h:wkS sub root n ar i p out=some out')(hl:(out.length:Int) < n):(out'.length:Int) < n:=by
 unfold wkS at h
 split at h
 ·split at h
  ·cases h;exact hl
  ·cases h
 ·split at h
  ·cases h
  ·split at h
   ·cases h
   ·split at h
    ·cases h
    ·rename_i hh;cases h;omega
theorem wkI_lt {sub:Int->Int->Option (List Int)}{root n:Int}{x:Nd}(hn:1<=n):∀(i:Nat) (l:List Int),wkI sub root n x i=some l->(l.length:Int) < n
 | 0,l,h=>by cases h;simp;omega
 | i+1,l,h=>by
  simp only[wkI] at h
  cases hs:wkI sub root n x i with
  | none=>rw[hs] at h;cases h
  | some o=>rw[hs] at h;exact wkS_lt h (wkI_lt hn i o hs)
theorem wk_len {NS:List Nd}{f:Nat}{root n:Int}{l:List Int}(h:wk NS f root n=some l):0 < l.length/\(l.length:Int)<=n:=by
 cases f with
 | zero=>cases h
 | succ f =>
  unfold wk at h
  split at h
  ·cases h
  ·rename_i hc
   cases hs:wkI (wk NS f) root n (NS.getD root.toNat n0) 3 with
   | none=>rw[hs] at h;cases h
   | some o =>
    rw[hs] at h
    have:=wkI_lt (by omega) 3 o hs
    cases h
    rw[List.length_append,List.length_singleton]
    omega
theorem list_ins {W:World}{base:Nat}{A B:List Int}{v:Value}{ops:Array Oper}{rest:List Oper}{o:Oper}{a:Act}{Q:Exit->Act->World->Prop}
  (hgd:o.guard=none) (s x:Operand) (ho:o.op=.call { callee:=.builtin .append,args:=#[s,x],argTypes:=#[25,25] })
  (hs:a.eval s=v) (hO:W.ownsRow base 3 1 v A.length (in64 A)) (hbase:base<=W.heap.size) (q c b2:Nat) (hx:a.eval x=.slice (some ⟨q,0,none⟩) B.length c) (hc:W.ownsRow b2 3 1 (.slice (some ⟨q,0,none⟩) B.length c) B.length (in64 B)) (h3:A.length<=2000000) (h4:B.length<=2000000) (h0:0 < B.length)
  (h:∀ g cap w',w'.ownsRow base 3 1 (.slice (some ⟨g,0,none⟩) (A.length+B.length) cap) (A++B).length (in64 (A++B))->(∀ w0,Below base w0 W->Below base w0 w')->wpList Tryz.prog ops Q rest (a.put o.dst (.slice (some ⟨g,0,none⟩) (A.length+B.length) cap)) w') :
  wpList Tryz.prog ops Q (o::rest) a W:=by
 obtain⟨i0,hi0,hz0,hz1,hz2⟩:=info_parts infoInt
 refine wpList_append_lies W hgd s x 25 ho base 3 i0 _ 1 8 Tryz.underlying25 hi0 hz0 hz1 hz2 rfl (by omega) v A.length (in64 A) hs hO ⟨q,0,none⟩ B.length c (in64 B) hx (by simp) (hc.cells rfl) (by simp[Value.oneCell']) (by omega) (by unfold maxLen;omega) (by omega) hbase W.heap.size rfl ?_
 intro g cap w' hown hgrow hat hlt
 exact h g cap w' (by rw[List.length_append,show in64 (A++B)=in64 A++in64 B from List.map_append];exact hown) (fun w0 hb=>hb.grown hgrow hbase fun k hk=>(owns_block hO k hk).1)
theorem own_mono {w:World}{base base':Nat}{e:TypeId}{size:Nat}{v:Value}{n:Nat}{xs:List Value}(h:w.ownsRow base e size v n xs)(hb:base'<=base):w.ownsRow base' e size v n xs:=by
 obtain⟨h1,h2⟩:=h
 refine⟨h1,?_⟩
 rcases h2 with h2|⟨g,cap,cur,hv,hg,rest⟩
 ·exact .inl h2
 ·exact .inr ⟨g,cap,cur,hv,Nat.le_trans hb hg,rest⟩
def WkP (NS:List Nd)(f:Nat)(root n:Int)(W:World)(e:Ending)(W':World):Prop :=
 (wk NS f root n=none/\e=.returned (.slice none 0 0)/\Below W.heap.size W W') \/
 (∃ l g c,wk NS f root n=some l/\e=.returned (.slice (some ⟨g,0,none⟩) l.length c)/\W'.ownsRow W.heap.size 3 1 (.slice (some ⟨g,0,none⟩) l.length c) l.length (in64 l)/\Below W.heap.size W W')
theorem walk_any {NS:List Nd}{da:Option Addr}{dl dc:Nat}(hd:dl<=1024):∀(f:Nat) (root n:Int) (W:World),Nz W da dl dc NS->root < f->0<=n->n<=1024 ->
  Calls Tryz.prog 79 #[.slice da dl dc,.int .i64 root,.int .i64 n] W fun e W'=>WkP NS f root n W e W':=by
 intro f
 induction f with
 | zero =>
  intro root n W hN hr h0 h1
  have hr0:root < 0:=by omega
  have HF:Hid (wk NS 0 root n=none):=hide rfl
  clear hN hr
  go_enter Tryz.func79,Tryz.ntmps79
  go_wp2_with fail
  go_ret
  exact .inl ⟨HF.out,rfl,Below.refl _ _⟩
 | succ f ih =>
  intro root n W hN hr h0 h1
  have HIH:=hide ih
  have HNZ:=hide hN
  have HL:=hide hN.len
  have HR:=hide hr
  clear ih hN hr
  by_cases hbad:root < 0\/(dl:Int)<=root\/n < 1
  ·have HF:Hid (wk NS (f+1) root n=none):=hide (by unfold wk;rw[if_pos (by rw[HL.out];exact hbad)])
   rcases(show root < 0\/(0<=root/\(dl:Int)<=root)\/(0<=root/\root < dl/\n < 1) by omega) with h2|⟨h2,h3⟩|⟨h2,h3,h4⟩
   all_goals
    go_enter Tryz.func79,Tryz.ntmps79
    go_wp2_with fail
    go_ret
    exact .inl ⟨HF.out,rfl,Below.refl _ _⟩
  ·obtain⟨r,hr⟩:∃ r:Nat,root=r:=⟨root.toNat,by omega⟩
   subst hr
   have hrl:r < dl:=by omega
   have hn1:1<=n:=by omega
   have HF:Hid (wk NS (f+1) r n=(wkI (wk NS f) r n (NS.getD r n0) 3).map (·++[(r:Int)])):=hide (by rw[wk,if_neg (by rw[HL.out];exact hbad)];rfl)
   clear hbad
   obtain⟨g,off,rfl,hat⟩:=HNZ.out.at (by omega)
   obtain⟨e0,e1,e2,e3,e4,e5,e6,e7,e8⟩:=hat r hrl
   clear hat
   generalize NS.getD r n0=x at *
   have hi0:(0:Int)<=r:=by omega
   have hi1:(r:Int) < dl:=by omega
   have HC0:=hide ((HasC.new W 65 (ndA x)).alloc (.cells #[.int .i64 x.a,.int .i64 x.b,.int .i64 x.c] 3))
   have HC1:=hide (HasC.new (W.alloc (.cells (ndA x) 65)) 3 #[.int .i64 x.a,.int .i64 x.b,.int .i64 x.c])
   have HB0:=hide (bel (bel1 W (.cells (ndA x) 65)) (bel1 (W.alloc (.cells (ndA x) 65)) (.cells #[.int .i64 x.a,.int .i64 x.b,.int .i64 x.c] 3)))
   have HZ0:Hid (((W.alloc (.cells (ndA x) 65)).alloc (.cells #[.int .i64 x.a,.int .i64 x.b,.int .i64 x.c] 3)).heap.size=W.heap.size+2):=hide (by simp)
   rw[World.size_alloc] at HC1
   obtain⟨W2,hW2⟩:∃ W2,W2=(W.alloc (.cells (ndA x) 65)).alloc (.cells #[.int .i64 x.a,.int .i64 x.b,.int .i64 x.c] 3):=⟨_,rfl⟩
   rw[<-hW2] at HC0 HC1 HB0 HZ0
   have HW2:=hide hW2
   clear hW2
   have heq:∀(w:World) (a:Option Addr) (n c:Nat),(binOp .eql 25 (.slice a n c) (.slice none 0 0)).run Tryz.prog w=.ok (.bool a.isNone) w:=fun w a n c=>Lib.run_eql_slice_nil w 25 3 a n c 0 0 Tryz.underlying25
   go_enter Tryz.func79,Tryz.ntmps79
   go_wp2_with fail
   generalize decide ((r:Int) < 0)=dd1
   generalize decide (dl<=r)=dd2
   generalize decide (n < 1)=dd3
   go_loopw [7,10] (fun v i wr=>∃(k:Nat) (L:List Int),k<=3/\i=.int .i64 k/\Hid (wkI (wk NS f) r n x k=some L)/\Hid (wr.ownsRow (W.heap.size+2) 3 1 v L.length (in64 L))/\Hid (Below W2.heap.size W2 wr)) (fun _ i _=>3-(intOf i).toNat)
   case atStart=>exact⟨0,[],by omega,rfl,hide rfl,hide (World.ownsRow_nil _ _ _ _),hide (by rw[HW2.out];exact Below.refl _ _)⟩
   case round =>
    obtain⟨k,L,hk,rfl,HI,HO,HB⟩:=hrel
    rename World=>V
    obtain⟨va,vc,rfl,hIz⟩:=Iz.of_owns HO.out
    clear hIz
    have hLn:=wkI_lt hn1 k L HI.out
    by_cases hlt:k < 3
    ·obtain⟨f0,-⟩:=(HC0.out.below HB.out).nine
     have hp:V.cell? ⟨W.heap.size+1,k,none⟩=some (.int .i64 (prW x k)):=by
      refine(HC1.out.below HB.out).cell k ?_
      rcases(show k=0\/k=1\/k=2 by omega) with rfl|rfl|rfl <;> rfl
     have HS:Hid (wkI (wk NS f) r n x (k+1)=wkS (wk NS f) r n (arZ x.op) k (prW x k) L):=hide (by rw[wkI,HI.out];rfl)
     have HAr:=hide fun W=>varity_any x.op W
     have hk0:(0:Int)<=k:=by omega
     have hk3:(k:Int) < 3:=by omega
     have HNone:Hid (wkI (wk NS f) r n x (k+1)=none->wk NS (f+1) r n=none):=hide (by
      intro h
      rw[HF.out]
      have:∀ m,wkI (wk NS f) r n x (k+1+m)=none:=by
       intro m
       induction m with
       | zero=>exact h
       | succ m ih=>show (wkI (wk NS f) r n x (k+1+m)).bind _=none;rw[ih];rfl
      have h3:=this (3-(k+1))
      rw[show k+1+(3-(k+1))=3 by omega] at h3
      rw[h3]
      rfl)
     generalize arZ x.op=ar at *
     generalize prW x k=p at *
     unfold wkS at HS
     by_cases har:ar<=k
     ·rw[if_pos har] at HS
      by_cases hp0:p=0
      ·rw[if_pos hp0] at HS
       subst hp0
       go_wp2_with fail
       refine(HAr.out _).mono ?_
       rintro e V1 ⟨rfl,rfl⟩
       go_wp2_with fail
       go_roundw
       case rel=>exact⟨k+1,L,by omega,by go_num,hide HS.out,hide HO.out,hide HB.out⟩
       case measure=>simp[intOf];omega
      ·rw[if_neg hp0] at HS
       have HE:=hide (HNone.out HS.out)
       have hp1:(p != 0)=true:=by simpa using hp0
       go_wp2_with fail
       refine(HAr.out _).mono ?_
       rintro e V1 ⟨rfl,rfl⟩
       go_wp2_with fail
       go_ret
       exact .inl ⟨HE.out,rfl,HB0.out.trans (HB.out.mono HB0.out.size)⟩
     ·rw[if_neg har] at HS
      by_cases hpr:(r:Int)<=p
      ·rw[if_pos hpr] at HS
       have HE:=hide (HNone.out HS.out)
       go_wp2_with fail
       refine(HAr.out _).mono ?_
       rintro e V1 ⟨rfl,rfl⟩
       go_wp2_with fail
       go_ret
       exact .inl ⟨HE.out,rfl,HB0.out.trans (HB.out.mono HB0.out.size)⟩
      ·rw[if_neg hpr] at HS
       have HWk:=hide (HIH.out p (n-L.length-1) V (HNZ.out.later (HB0.out.trans (HB.out.mono HB0.out.size))) (by have:=HR.out;omega) (by omega) (by omega))
       go_wp2_with fail
       refine(HAr.out _).mono ?_
       rintro e V1 ⟨rfl,rfl⟩
       go_wp2_with fail
       refine(HWk.out).mono ?_
       rintro e V2 (⟨hw,rfl,hb2⟩|⟨l,g2,c2,hw,rfl,ho2,hb2⟩)
       ·rw[hw] at HS
        have HE:=hide (HNone.out HS.out)
        have HB2:=hide (bel HB.out hb2)
        clear hb2 hw
        go_wp2_with fail
        go_ret
        exact .inl ⟨HE.out,rfl,HB0.out.trans (HB2.out.mono HB0.out.size)⟩
       ·obtain⟨hl0,hl1⟩:=wk_len hw
        rw[hw] at HS
        have HB2:=hide (bel HB.out hb2)
        have HO2:=hide (owns_kp HO.out (Kp.of_below [] hb2) (by decide))
        have HL2:=hide ho2
        have hs2:W.heap.size+2<=V2.heap.size:=by have:=HB2.out.size;rw[HZ0.out] at this;exact this
        have HSZ:=hide hs2
        clear hb2 hw ho2 HO hs2
        by_cases hbig:n<=((L++l).length:Int)
        ·rw[List.length_append] at hbig
         omega
        ·have HE:=hide (HS.out.trans (if_neg hbig))
         have hbig2:¬n<=(L.length:Int)+(l.length:Int):=by rw[List.length_append] at hbig;omega
         clear hbig
         go_wp2_with (at_builtin;refine list_ins (A:=L) (B:=l) rfl _ _ rfl rfl HO2.out HSZ.out g2 c2 _ rfl HL2.out (by omega) (by omega) hl0 ?_;intro g4 cap4 V4 hown hold;have HB4:=hide (show Below W2.heap.size W2 V4 by have:=HB2.out;rw[HZ0.out] at this ⊢;exact hold W2 this);have HO4:=hide hown;clear hown hold)
         go_roundw
         case rel=>exact⟨k+1,L++l,by omega,by go_num,hide HE.out,hide HO4.out,hide HB4.out⟩
         case measure=>simp[intOf];omega
    ·obtain rfl:k=3:=by omega
     have HE:Hid (wk NS (f+1) r n=some (L++[(r:Int)])):=hide (by rw[HF.out,HI.out];rfl)
     have HSZ:Hid (W.heap.size+2<=V.heap.size):=hide (by have:=HB.out.size;rw[HZ0.out] at this;exact this)
     go_wp2_with (at_builtin;refine list_in (A:=L) rfl _ _ rfl rfl (HO.out.alloc _) (by have:=HSZ.out;simp;omega) _ r rfl (HasC.new _ _ _) (by omega) ?_;intro g4 cap4 V4 hown hk4 hold;have HB4:=hide (show Below W2.heap.size W2 V4 by have:=bel HB.out (bel1 V (.cells #[.int .i64 (r:Int)] 3));rw[HZ0.out] at this ⊢;exact hold W2 this HZ0.out);have HO4:=hide hown;clear hown hk4 hold)
     go_ret
     refine .inr ⟨L++[(r:Int)],g4,cap4,HE.out,?_,?_,HB0.out.trans (HB4.out.mono HB0.out.size)⟩
     ·rw[List.length_append];rfl
     ·have h4:=HO4.out
      rw[List.length_append] at h4 ⊢
      exact own_mono h4 (by omega)
end Go.Proofs.YtngnnijpdjhelaaGreat
