import Derived.Test.YtngnnijpdjhelaaGreatX47
namespace Go.Proofs.YtngnnijpdjhelaaGreat
open Go.RowKit Go.IntWalk Lx Pz
set_option linter.unusedVariables false
set_option maxRecDepth 100000
set_option maxHeartbeats 16000000
theorem flat_k {bd:Nat}:∀(e:E) (s:Nat),Gd bd e->∀ n ∈ e.flat s,5<=n.op->n.k=0
 | .leaf m,s,h,n,hn,h5=>by
  rw[E.flat,List.mem_singleton] at hn
  subst hn
  obtain⟨-,-,-,h4,-⟩:=h
  have:=pr_zero h4
  omega
 | .un o a,s,h,n,hn,h5=>by
  rw[E.flat,List.mem_append,List.mem_singleton] at hn
  rcases hn with hn|rfl
  ·exact flat_k a s h.2 n hn h5
  ·rfl
 | .bin o a b,s,h,n,hn,h5=>by
  rw[E.flat,List.mem_append,List.mem_append,List.mem_singleton] at hn
  rcases hn with(hn|hn)|rfl
  ·exact flat_k a s h.2.1 n hn h5
  ·exact flat_k b _ h.2.2 n hn h5
  ·rfl
 | .tri o a b c,s,h,n,hn,h5=>by
  rw[E.flat,List.mem_append,List.mem_append,List.mem_append,List.mem_singleton] at hn
  rcases hn with((hn|hn)|hn)|rfl
  ·exact flat_k a s h.2.1 n hn h5
  ·exact flat_k b _ h.2.2.1 n hn h5
  ·exact flat_k c _ h.2.2.2 n hn h5
  ·rfl
theorem flL_k:∀(es:List E) (s j:Nat),(∀ i e,es[i]?=some e->Gd (j+i) e)->∀ n ∈ flL es s,5<=n.op->n.k=0
 | [],s,j,h,n,hn,h5=>by simp[flL] at hn
 | a::es,s,j,h,n,hn,h5=>by
  rw[flL,List.mem_append] at hn
  rcases hn with hn|hn
  ·exact flat_k a s (by simpa using h 0 a rfl) n hn h5
  ·exact flL_k es _ (j+1) (fun i e he=>by have:=h (i+1) e (by simpa using he);rwa[show j+(i+1)=j+1+i by omega] at this) n hn h5
theorem ck_k0 {f d:Int}{NM:List Txt}{BS:List Int}{NS:List Nd}{root:Int}(h:ckE f d NM BS NS root=0):∀ n ∈ NS,5<=n.op->n.k=0:=by
 obtain⟨es,ex,hD⟩:=chk_dec.1 (ck_zero.1 h).2.1
 intro n hn h5
 rw[hD.nodes,List.mem_append] at hn
 rcases hn with hn|hn
 ·exact flL_k es 0 0 (by simpa using hD.gd) n hn h5
 ·exact flat_k ex _ hD.gx n hn h5
structure Lc (W V:World)(gc:Nat)(kd tr rs:Array Value)(f d:Int)(sv:Value)(z:Int)(I:List Cde.In):Prop where
 k:HasC V W.heap.size 23 kd
 t:HasC V (W.heap.size+1) 28 tr
 o:HasC V (W.heap.size+1+1) 32 rs
 c:HasC V gc 32 (cdv f d sv z)
 s:V.ownsRow W.heap.size 67 6 sv I.length (Cde.is6 I)
 hc:W.heap.size+1+1 < gc
 lo:Below W.heap.size W V
theorem Lc.below {W V V':World}{gc:Nat}{kd tr rs:Array Value}{f d z:Int}{sv:Value}{I:List Cde.In}(h:Lc W V gc kd tr rs f d sv z I)(hb:Below V.heap.size V V'):Lc W V' gc kd tr rs f d sv z I :=
 ⟨h.k.below hb,h.t.below hb,h.o.below hb,h.c.below hb,own_bel h.s hb,h.hc,bel h.lo hb⟩
structure Ly (W V:World)(gc p:Nat)(kd tr rs nd xs:Array Value)(f d:Int)(sv:Value)(z:Int)(I:List Cde.In):Prop where
 a:Lc W V gc kd tr rs f d sv z I
 n:HasC V p 65 nd
 x:HasC V (p+1) 67 xs
 hp:gc < p
theorem Ly.below {W V V':World}{gc p:Nat}{kd tr rs nd xs:Array Value}{f d z:Int}{sv:Value}{I:List Cde.In}(h:Ly W V gc p kd tr rs nd xs f d sv z I)(hb:Below V.heap.size V V'):Ly W V' gc p kd tr rs nd xs f d sv z I :=
 ⟨h.a.below hb,h.n.below hb,h.x.below hb,h.hp⟩
theorem Lc.put {W V:World}{gc b i:Nat}{kd tr rs cs:Array Value}{f d z:Int}{sv:Value}{I:List Cde.In}(h:Lc W V gc kd tr rs f d sv z I)(hx:HasC V b 67 cs)(hb:gc < b)(hne:sv.ownBlock≠some b)(u:Value):Lc W (V.setCell ⟨b,i,none⟩ u) gc kd tr rs f d sv z I:=by
 have hc:=h.hc
 refine⟨h.k.other (p:=⟨b,i,none⟩) (show W.heap.size≠b by omega) _,h.t.other (p:=⟨b,i,none⟩) (show W.heap.size+1≠b by omega) _,h.o.other (p:=⟨b,i,none⟩) (show W.heap.size+1+1≠b by omega) _,h.c.other (p:=⟨b,i,none⟩) (show gc≠b by omega) _,?_,hc,h.lo.setCell (p:=⟨b,i,none⟩) (show W.heap.size<=b by omega) _⟩
 exact ownsRow_setCell_other h.s (a:=⟨b,i,none⟩) hne u
theorem Ly.put {W V:World}{gc p i:Nat}{kd tr rs nd xs:Array Value}{f d z:Int}{sv:Value}{I:List Cde.In}(h:Ly W V gc p kd tr rs nd xs f d sv z I)(hne:sv.ownBlock≠some (p+1))(u:Value):Ly W (V.setCell ⟨p+1,i,none⟩ u) gc p kd tr rs nd (xs.setIfInBounds i u) f d sv z I :=
 ⟨h.a.put h.x (by have:=h.hp;omega) hne u,h.n.other (p:=⟨p+1,i,none⟩) (show p≠p+1 by omega) _,h.x.set i u,h.hp⟩
theorem Lc.grow {W V w':World}{gc:Nat}{kd tr rs:Array Value}{f d z:Int}{sv v':Value}{I J:List Cde.In}(h:Lc W V gc kd tr rs f d sv z I)(hg:V.grownBy w' sv.ownBlock)(hO:w'.ownsRow W.heap.size 67 6 v' J.length (Cde.is6 J)):Lc W (w'.setCell ⟨gc,2,none⟩ v') gc kd tr rs f d v' z J:=by
 have hc:=h.hc
 have hcc:=own_grow h.s hg h.c (by decide)
 exact⟨(own_grow h.s hg h.k (by decide)).other (p:=⟨gc,2,none⟩) (show W.heap.size≠gc by omega) _,(own_grow h.s hg h.t (by decide)).other (p:=⟨gc,2,none⟩) (show W.heap.size+1≠gc by omega) _,(own_grow h.s hg h.o (by decide)).other (p:=⟨gc,2,none⟩) (show W.heap.size+1+1≠gc by omega) _,hcc.set 2 v',own_cell hO hcc (by decide) _,hc,
  (h.lo.grown hg h.lo.size fun k hk=>(Cde.owns_block h.s k hk).1).setCell (p:=⟨gc,2,none⟩) (show W.heap.size<=gc by omega) _⟩
theorem wp_cut {P:Program}{id:Nat}{ops:Array Oper}{b:Bool}{Q:Exit->Act->World->Prop}{a:Act}{w:World}(T:Act->Act->World->Prop)(h:(Code.region id ops b).wp P (fun e a' w'=>e=.normal/\T a a' w') a w)(hT:∀ a' w',T a a' w'->Q .normal a' w'):(Code.region id ops b).wp P Q a w :=
 Code.wp_mono (fun e a' w' ⟨he,ht⟩=>by subst he;exact hT a' w' ht) h
theorem lo_more (f d:Int)(BS:List Int):∀(B:List Nd) (s:List Int × List Cde.In),∃ E,(B.foldl (loS f d BS) s).1=s.1++E
 | [],s=>⟨[],by simp⟩
 | n::B,s=>by
  obtain⟨E,h⟩:=lo_more f d BS B (loS f d BS s n)
  rw[List.foldl_cons,h]
  unfold loS
  split
  ·exact⟨_,by dsimp only;rw[List.append_assoc]⟩
  ·exact⟨_,by dsimp only;rw[List.append_assoc]⟩
theorem lo_pre (f d:Int)(BS:List Int)(A B:List Nd):∃ E,(loF f d BS (A++B)).1=(loF f d BS A).1++E:=by
 unfold loF
 rw[List.foldl_append]
 exact lo_more f d BS B _
abbrev msk (op k:Int):Array Value:=#[.int .i64 op,.int .i64 0,.int .i64 0,.int .i64 0,.int .i64 k,.int .i64 0]
theorem own_lt' {V:World}{base size n q:Nat}{e:TypeId}{v:Value}{xs:List Value}(h:V.ownsRow base e size v n xs)(hq:V.heap.size<=q):v.ownBlock≠some q:=fun e=>by
 have:=(h.lt q e).2
 omega
theorem qlower_any (f d:Int){W:World}{na ba da:Option Addr}{nl nc bl bc dl dc:Nat}{root:Int}{NM:List Txt}{BS:List Int}{NS:List Nd}(hX:Tx W na nl nc NM)(hB:Iz W ba bl bc BS)(hN:Nz W da dl dc NS)(hs:∀ s ∈ NM,s.length<=9223372036854775807) :
  Calls Tryz.prog 9 #[.agg (kdA f d),.agg (tr4 (.slice na nl nc) (.slice ba bl bc) (.slice da dl dc) (.int .i64 root))] W (LoP W (loV f d NM BS NS root)):=by
 have hb1:=bel1 W (.cells (kdA f d) 23)
 have hb2:=bel hb1 (bel1 (W.alloc (.cells (kdA f d) 23)) (.cells (tr4 (.slice na nl nc) (.slice ba bl bc) (.slice da dl dc) (.int .i64 root)) 28))
 have hb3:=bel hb2 (bel1 ((W.alloc (.cells (kdA f d) 23)).alloc (.cells (tr4 (.slice na nl nc) (.slice ba bl bc) (.slice da dl dc) (.int .i64 root)) 28)) (.cells cdz 32))
 have HK0:=hide (((HasC.new W 23 (kdA f d)).alloc (.cells (tr4 (.slice na nl nc) (.slice ba bl bc) (.slice da dl dc) (.int .i64 root)) 28)).alloc (.cells cdz 32))
 have HT0:=hide ((has_n1 W (.cells (kdA f d) 23) 28 (tr4 (.slice na nl nc) (.slice ba bl bc) (.slice da dl dc) (.int .i64 root))).alloc (.cells cdz 32))
 have HO0:=hide (has_n2 W (.cells (kdA f d) 23) (.cells (tr4 (.slice na nl nc) (.slice ba bl bc) (.slice da dl dc) (.int .i64 root)) 28) 32 cdz)
 have HB0:=hide hb3
 have HCk:=hide (jcheck_any f d (root:=root) (hX.later hb3) (hB.later hb3) (hN.later hb3) hs)
 have HBI:=hide hB
 have HNI:=hide hN
 have HLN:=hide hN.len
 clear hb1 hb2 hb3 hX hB hN
 go_enter Tryz.func9,Tryz.ntmps9
 go_wp2_with fail
 refine HCk.out.mono ?_
 rintro e V1 (⟨he,rfl,hb⟩|⟨he,ga,gcap,rfl,-,hb,-⟩)
 ·obtain⟨er,hZ⟩:∃ er,ckE f d NM BS NS root=er:=⟨_,rfl⟩
  have hev:loV f d NM BS NS root=⟨er,0,0,[],0⟩:=by unfold loV;rw[if_neg he,hZ]
  rw[hZ] at he ⊢
  have HEv:=hide hev
  have h1:(er != 0)=true:=by simpa using he
  have HB1:=hide (bel HB0.out hb)
  have HO1:=hide (HO0.out.below hb)
  have hlt:=HO1.out.lt
  obtain⟨o0,o1,o2,o3⟩:=four_of HO1.out
  have y0:=HO1.out.frozen 0
  have y1:=HO1.out.frozen 1
  have y2:=HO1.out.frozen 2
  have y3:=HO1.out.frozen 3
  clear he hev hZ hb HB0 HCk HK0 HT0 HO0
  go_wp2_with fail
  obtain⟨hp0,hpb0⟩:=put_four HO1.out HB1.out (by omega) (.int .i64 0) (.int .i64 0) (.slice none 0 0) (.int .i64 0)
  have hp:=hp0.alloc (.cells rep0 50)
  have hpb:=bel hpb0 (bel1 _ (.cells rep0 50))
  have p0:=hp.cell 0 rfl
  have p1:=hp.cell 1 rfl
  have p2:=hp.cell 2 rfl
  have p3:=hp.cell 3 rfl
  exact bodyPost_ret (v:=.tuple #[.agg cdz,.int .i64 er]) (by simp[results,Tryz.results9,go_sem,p0,p1,p2,p3]) rfl (by rw[HEv.out];exact⟨none,0,rfl,⟨rfl,.inl ⟨rfl,rfl⟩⟩,hpb⟩)
 ·have hev:loV f d NM BS NS root=⟨0,f,d,(loF f d BS NS).2,(loF f d BS NS).1.getD root.toNat 0⟩:=by unfold loV;rw[if_pos he]
  have HEv:=hide hev
  have HRt:=sound_root (ck_sound he)
  obtain⟨es,ex,hD⟩:=chk_dec.1 (ck_sound he)
  have HW:=hide hD.wl
  have hfew:=hD.few
  rw[HLN.out] at hfew
  have HNm:=hide fun(n:Nd) hn h3=>ck_num he (n:=n) hn h3
  have HK5:=hide (ck_k0 he)
  have HLw:=hide (lw_all he)
  have HLo:=hide (show ∃ R I,loF f d BS NS=(R,I) from⟨_,_,rfl⟩)
  have hlu:=lu_all he
  obtain⟨R,J,hRJ⟩:=HLo.out
  rw[hRJ] at HLw HEv hlu
  dsimp only at HLw HEv hlu
  have HReg:=hide fun(w:World) (i:Nat) (hi:i < dl) (hb:Below W.heap.size W w)=>oregister_any HLw.out hlu hD.wl (.slice na nl nc) ⟨_,_,_,rfl⟩ root hfew i hi w (HBI.out.later hb) (HNI.out.later hb)
  obtain⟨q,rfl⟩:∃ q:Nat,root=q:=⟨root.toNat,by omega⟩
  simp only[Int.toNat_natCast] at HRt HEv
  have hql:q < dl:=by rw[<-HLN.out];exact HRt.2.1
  have HRJ:=hide hRJ
  have hb4:=bel1 V1 (.cells #[.slice ga NS.length gcap,.int .i64 (coR NS),.int .i64 (mxR (dpR BS NS []))] 50)
  have HK1:=hide ((HK0.out.below hb).below hb4)
  have HT1:=hide ((HT0.out.below hb).below hb4)
  have HO1:=hide ((HO0.out.below hb).below hb4)
  have HB1:=hide (bel (bel HB0.out hb) hb4)
  clear hb hb4 he HB0 HCk HK0 HT0 HO0 hD hev hlu HLo hRJ HRt
  generalize coR NS=co at *
  generalize mxR (dpR BS NS [])=mx at *
  obtain⟨z,hz⟩:∃ z,R.getD q 0=z:=⟨_,rfl⟩
  rw[hz] at HEv
  have HR0:=hide fun(w:World) (hb:Below W.heap.size W w)=>HReg.out w q hql hb
  rw[hz] at HR0
  clear hz
  go_wp2_with fail
  obtain⟨V2,hV2⟩:∃ V2,V1.alloc (.cells #[.slice ga NS.length gcap,.int .i64 co,.int .i64 mx] 50)=V2:=⟨_,rfl⟩
  rw[hV2] at HK1 HT1 HO1 HB1 ⊢
  clear hV2
  have HS1:=hide (show HasC V2.drew W.heap.size 23 (kdA f d)/\HasC V2.drew (W.heap.size+1) 28 (tr4 (.slice na nl nc) (.slice ba bl bc) (.slice da dl dc) (.int .i64 (q:Int))) from⟨HK1.out.below (below_drew _),HT1.out.below (below_drew _)⟩)
  have hzo:=HO1.out.lt
  refine wp_cut (fun a a' w'=>∃ gc,a'=⟨((((((a.tmps.setIfInBounds 23 (.agg (kdA f d))).setIfInBounds 24 (.agg (tr4 (.slice na nl nc) (.slice ba bl bc) (.slice da dl dc) (.int .i64 (q:Int))))).setIfInBounds 25 (.pointer (some ⟨W.heap.size+1,3,none⟩))).setIfInBounds 26 (.int .i64 (q:Int))).setIfInBounds 27 (.int .i64 z)).setIfInBounds 28 (.agg (cdv f d (.slice none 0 0) z))).setIfInBounds 8 (.pointer (some ⟨gc,0,none⟩)),a.defers⟩/\Hid (Lc W w' gc (kdA f d) (tr4 (.slice na nl nc) (.slice ba bl bc) (.slice da dl dc) (.int .i64 (q:Int))) cdz f d (.slice none 0 0) z [])) ?_ ?_
  case refine_2 =>
   rintro _ V3 ⟨gc,rfl,HL0⟩
   simp only[List.setIfInBounds_toArray,List.set_cons_succ,List.set_cons_zero]
   go_wp2_with fail
   go_loopw [9] (fun i wr=>∃(k:Nat) (D:List Int) (I:List Cde.In) (sa:Option Addr) (sc:Nat),k<=dl/\i=.int .i64 k/\Hid (loF f d BS (NS.take k)=(D,I))/\Hid (Lc W wr gc (kdA f d) (tr4 (.slice na nl nc) (.slice ba bl bc) (.slice da dl dc) (.int .i64 (q:Int))) cdz f d (.slice sa I.length sc) z I)) (fun i _=>dl-(intOf i).toNat)
   case atStart=>exact⟨0,[],[],none,0,Nat.zero_le _,rfl,hide rfl,HL0⟩
   case round =>
    obtain⟨k,D,I,sa,sc,hk,rfl,HD,HX⟩:=hrel
    rename World=>V
    clear HL0
    by_cases hlt:k < dl
    ·obtain⟨gn,off,rfl,hat⟩:=(HNI.out.later HX.out.lo).at (by omega)
     obtain⟨e0,e1,e2,e3,e4,e5,e6,e7,e8⟩:=hat k hlt
     clear hat
     have hi0:(0:Int)<=k:=by omega
     have hi1:(k:Int) < dl:=by omega
     have hLk:Lw (NS.take k) D I:=by
      have:=Lw.run (f:=f) (d:=d) (BS:=BS) (NS.take k) [] ([],[]) lw_nil (wl_take HW.out k) (fun n hn h3=>HNm.out n (List.mem_of_mem_take hn) h3)
      rw[List.nil_append,show List.foldl (loS f d BS) ([],[]) (NS.take k)=(D,I) from HD.out] at this
      exact this
     have hDl:D.length=k:=by have:=hLk.len;rw[List.length_take,HLN.out] at this;omega
     have hIl:I.length<=1024:=by
      have h1:=hLk.cnt
      have h2:cn (NS.take k)<=(NS.take k).length:=List.length_filter_le _ _
      rw[List.length_take,HLN.out] at h2
      omega
     have HPre:Hid (∀ j,j < k->D.getD j 0=R.getD j 0):=hide fun j hj=>by
      have:=lo_pre f d BS (NS.take k) (NS.drop k)
      rw[List.take_append_drop,HRJ.out,HD.out] at this
      obtain⟨E,hE⟩:=this
      dsimp only at hE
      rw[hE,getI_preA (by omega)]
     have HWn:=hide (wl_at HW.out (by rw[HLN.out];exact hlt:k < NS.length))
     rw[Nat.zero_add] at HWn
     have HD2:=hide (loF_snoc f d BS (NS.take k) (NS.getD k n0))
     rw[<-take_snoc n0 (by rw[HLN.out];exact hlt),HD.out] at HD2
     unfold loS at HD2
     have hmem:=getN_mem (NS:=NS) (i:=k) (by rw[HLN.out];exact hlt)
     have HNk:=hide (HNm.out _ hmem)
     have HK5n:=hide (HK5.out _ hmem)
     have t2:=HX.out.t.cell 2 rfl
     have hz2:=HX.out.t.lt
     have hz3:=HX.out.c.lt
     clear hLk hmem
     generalize NS.getD k n0=n at *
     by_cases ho4:n.op=4
     ·have q4:(n.op==4)=true:=by simpa using ho4
      rw[if_pos ho4] at HD2
      dsimp only at HD2
      have HX2:=hide (HX.out.below (bel1 V (.cells (ndA n) 65)))
      clear ho4 hDl HWn
      go_wp2_with fail
      go_roundw
      case rel=>exact⟨k+1,D++[lrg D (BS.getD n.k.toNat 0)],I,sa,sc,by omega,by go_num,hide HD2.out,HX2⟩
      case measure=>simp[intOf];omega
     have q4:(n.op==4)=false:=by simpa using ho4
     rw[if_neg ho4] at HD2
     dsimp only at HD2
     have HAr:=hide fun w=>Spn.rarity_any n.op w
     rw[ar_same] at HAr
     have hpr:=HWn.out.prt
     have hf:=ar_four HWn.out ho4
     have hne0:=own_lt' HX.out.s (show V.heap.size<=V.heap.size+1 by omega)
     have HY0:Hid (Ly W ((V.alloc (.cells (ndA n) 65)).alloc (.cells (msk n.op n.k) 67)) gc V.heap.size (kdA f d) (tr4 (.slice na nl nc) (.slice ba bl bc) (.slice (some ⟨gn,off,none⟩) dl dc) (.int .i64 (q:Int))) cdz (ndA n) (msk n.op n.k) f d (.slice sa I.length sc) z I) :=
      hide ⟨(HX.out.below (bel1 _ _)).below (bel1 _ _),(HasC.new V 65 (ndA n)).alloc _,has_n1 _ _ _ _,hz3⟩
     have hne:=hne0
     clear hne0 ho4 hDl
     rcases hf with⟨e,h⟩|⟨h5,e,hq⟩|⟨h5,e,hq⟩|⟨h5,e,hq⟩
     ·by_cases h3:n.op=3
      ·obtain⟨qn,hqn⟩:=HNk.out h3
       have hx:loI f d D n=⟨n.op,0,0,0,(qn:Int),0⟩:=by
        unfold loI loK
        rw[e,if_neg (by decide),if_neg (by decide),if_neg (by decide),if_pos h3,hqn]
        rfl
       rw[hx] at HD2
       rw[e] at HAr
       have q3:(n.op==3)=true:=by simpa using h3
       have HNu:=hide fun w=>Knd.rnumber_any f d (plOf n) w
       rw[<-Knd.num_same] at HNu
       unfold Knd.numV at HNu
       rw[hqn] at HNu
       simp only[Option.getD_some,Option.isSome_some] at HNu
       clear hx e hpr h3 h hqn HPre
       obtain⟨k0,k1,-,-⟩:=two_of HX.out.k
       have zk:=HX.out.k.lt
       go_wp2_with fail
       obtain⟨V5,hV5⟩:∃ V5,(V.alloc (.cells (ndA n) 65)).alloc (.cells (msk n.op n.k) 67)=V5:=⟨_,rfl⟩
       rw[hV5] at HY0 ⊢
       clear hV5
       generalize V.heap.size=p at *
       clear hz2 hz3 t2
       have n1:¬W.heap.size=p+1:=by have:=HY0.out.hp;have:=HY0.out.a.hc;omega
       have n2:¬W.heap.size=p:=by have:=HY0.out.hp;have:=HY0.out.a.hc;omega
       have n3:¬gc=p+1:=by have:=HY0.out.hp;omega
       refine(HNu.out _).mono ?_
       rintro e V6 ⟨rfl,hb⟩
       have HY1:=hide (HY0.out.below hb)
       clear hb k0 k1 zk e0 e1 e2 e3 e4 e5 e6 e7 e8
       obtain⟨k0,k1,-,-⟩:=two_of HY1.out.a.k
       obtain⟨t0,t1,t2,t3⟩:=four_of HY1.out.a.t
       obtain⟨e0,e1,e2,e3,e4,e5,e6,e7,e8⟩:=nine_of HY1.out.n
       obtain⟨m0,m1,m2,m3,m4,m5,y0,y1,y2,y3,y4,y5⟩:=six_fz HY1.out.x
       have HY2:=hide (HY1.out.put (i:=4) hne (.int .i64 (qn:Int)))
       go_wp2_with fail
       refine(HAr.out _).mono ?_
       rintro e w' ⟨rfl,hw5⟩
       subst hw5
       obtain⟨c0,c1,c2,c3⟩:=four_of HY1.out.a.c
       have HX6:=hide (HY2.out.a.below (bel1 (V6.setCell ⟨p+1,4,none⟩ (.int .i64 (qn:Int))) (.cells (Cde.ia ⟨n.op,0,0,0,(qn:Int),0⟩) 67)))
       have hnw:=HasC.new (V6.setCell ⟨p+1,4,none⟩ (.int .i64 (qn:Int))) 67 (Cde.ia ⟨n.op,0,0,0,(qn:Int),0⟩)
       rw[World.size_setCell] at hnw
       go_wp2_with (at_builtin;refine ins_list (L:=I) rfl _ _ rfl rfl HX6.out.s HX6.out.lo.size _ ⟨n.op,0,0,0,(qn:Int),0⟩ rfl hnw (by omega) ?_;intro g2 cap2 w3 hown hgrow;obtain⟨v0,v1,v2,v3⟩:=four_of (own_grow HX6.out.s hgrow HX6.out.c (by decide));have yv:=(own_grow HX6.out.s hgrow HX6.out.c (by decide)).frozen 2;have HX7:=hide (HX6.out.grow hgrow hown);clear hown hgrow)
       go_roundw
       case rel=>exact⟨k+1,D++[(I.length:Int)],I++[⟨n.op,0,0,0,(qn:Int),0⟩],_,_,by omega,by go_num,hide HD2.out,hide (by simpa using HX7.out)⟩
       case measure=>simp[intOf];omega
      ·have hx:loI f d D n=⟨n.op,0,0,0,n.k,0⟩:=by
        unfold loI loK
        rw[e,if_neg (by decide),if_neg (by decide),if_neg (by decide),if_neg h3]
       rw[hx] at HD2
       rw[e] at HAr
       have q3:(n.op==3)=false:=by simpa using h3
       clear hx e hpr h3 h HPre
       go_wp2_with fail
       obtain⟨V5,hV5⟩:∃ V5,(V.alloc (.cells (ndA n) 65)).alloc (.cells (msk n.op n.k) 67)=V5:=⟨_,rfl⟩
       rw[hV5] at HY0 ⊢
       clear hV5
       generalize V.heap.size=p at *
       clear hz2 hz3 t2
       have n1:¬W.heap.size=p+1:=by have:=HY0.out.hp;have:=HY0.out.a.hc;omega
       have n2:¬W.heap.size=p:=by have:=HY0.out.hp;have:=HY0.out.a.hc;omega
       have n3:¬gc=p+1:=by have:=HY0.out.hp;omega
       refine(HAr.out _).mono ?_
       rintro e w' ⟨rfl,hw5⟩
       subst hw5
       clear e0 e1 e2 e3 e4 e5 e6 e7 e8
       obtain⟨k0,k1,-,-⟩:=two_of HY0.out.a.k
       obtain⟨t0,t1,t2,t3⟩:=four_of HY0.out.a.t
       obtain⟨e0,e1,e2,e3,e4,e5,e6,e7,e8⟩:=nine_of HY0.out.n
       obtain⟨m0,m1,m2,m3,m4,m5,y0,y1,y2,y3,y4,y5⟩:=six_fz HY0.out.x
       obtain⟨c0,c1,c2,c3⟩:=four_of HY0.out.a.c
       have HX6:=hide (HY0.out.a.below (bel1 w' (.cells (Cde.ia ⟨n.op,0,0,0,n.k,0⟩) 67)))
       have hnw:=HasC.new w' 67 (Cde.ia ⟨n.op,0,0,0,n.k,0⟩)
       go_wp2_with (at_builtin;refine ins_list (L:=I) rfl _ _ rfl rfl HX6.out.s HX6.out.lo.size _ ⟨n.op,0,0,0,n.k,0⟩ rfl hnw (by omega) ?_;intro g2 cap2 w3 hown hgrow;obtain⟨v0,v1,v2,v3⟩:=four_of (own_grow HX6.out.s hgrow HX6.out.c (by decide));have yv:=(own_grow HX6.out.s hgrow HX6.out.c (by decide)).frozen 2;have HX7:=hide (HX6.out.grow hgrow hown);clear hown hgrow)
       go_roundw
       case rel=>exact⟨k+1,D++[(I.length:Int)],I++[⟨n.op,0,0,0,n.k,0⟩],_,_,by omega,by go_num,hide HD2.out,hide (by simpa using HX7.out)⟩
       case measure=>simp[intOf];omega
     ·rw[hq] at hpr
      have ha:=hpr n.a (by simp)
      obtain⟨pa,hpa⟩:∃ r:Nat,n.a=(r:Int):=⟨n.a.toNat,by omega⟩
      rw[hpa] at ha
      simp only[Int.toNat_natCast] at ha
      obtain⟨za,hza⟩:∃ r,R.getD pa 0=r:=⟨_,rfl⟩
      have hx:loI f d D n=⟨n.op,za,0,0,n.k,0⟩:=by
       unfold loI lrg
       rw[e,if_pos rfl,hpa]
       simp only[Int.toNat_natCast]
       rw[HPre.out pa (by omega),hza,HK5n.out h5]
      rw[hx] at HD2
      rw[e] at HAr
      have q3:(n.op==3)=false:=by simp;omega
      have HRa:=hide fun(w:World) (hb:Below W.heap.size W w)=>HReg.out w pa (by omega) hb
      rw[hza] at HRa
      have Hpa:=hide hpa
      clear hx e hq hpr HPre ha hza hpa
      go_wp2_with fail
      obtain⟨V5,hV5⟩:∃ V5,(V.alloc (.cells (ndA n) 65)).alloc (.cells (msk n.op n.k) 67)=V5:=⟨_,rfl⟩
      rw[hV5] at HY0 ⊢
      clear hV5
      generalize V.heap.size=p at *
      clear hz2 hz3 t2
      have n1:¬W.heap.size=p+1:=by have:=HY0.out.hp;have:=HY0.out.a.hc;omega
      have n2:¬W.heap.size=p:=by have:=HY0.out.hp;have:=HY0.out.a.hc;omega
      have n3:¬gc=p+1:=by have:=HY0.out.hp;omega
      refine(HAr.out _).mono ?_
      rintro e w' ⟨rfl,hw5⟩
      subst hw5
      clear e0 e1 e2 e3 e4 e5 e6 e7 e8
      obtain⟨k0,k1,-,-⟩:=two_of HY0.out.a.k
      obtain⟨t0,t1,t2,t3⟩:=four_of HY0.out.a.t
      obtain⟨e0,e1,e2,e3,e4,e5,e6,e7,e8⟩:=nine_of HY0.out.n
      rw[Hpa.out] at e1
      obtain⟨m0,m1,m2,m3,m4,m5,y0,y1,y2,y3,y4,y5⟩:=six_fz HY0.out.x
      go_wp2_with fail
      refine(HRa.out _ HY0.out.a.lo).mono ?_
      rintro e Ua ⟨rfl,hb⟩
      have HZa:=hide (HY0.out.below hb)
      clear hb
      clear k0 k1 t0 t1 t2 t3 e0 e1 e2 e3 e4 e5 e6 e7 e8 m0 m1 m2 m3 m4 m5 y0 y1 y2 y3 y4 y5
      obtain⟨k0,k1,-,-⟩:=two_of HZa.out.a.k
      obtain⟨t0,t1,t2,t3⟩:=four_of HZa.out.a.t
      obtain⟨e0,e1,e2,e3,e4,e5,e6,e7,e8⟩:=nine_of HZa.out.n
      rw[Hpa.out] at e1
      obtain⟨m0,m1,m2,m3,m4,m5,y0,y1,y2,y3,y4,y5⟩:=six_fz HZa.out.x
      have HYa:=hide (HZa.out.put (i:=1) hne (.int .i64 za))
      obtain⟨c0,c1,c2,c3⟩:=four_of HZa.out.a.c
      have HX6:=hide (HYa.out.a.below (bel1 (Ua.setCell ⟨p+1,1,none⟩ (.int .i64 za)) (.cells (Cde.ia ⟨n.op,za,0,0,n.k,0⟩) 67)))
      have hnw:=HasC.new (Ua.setCell ⟨p+1,1,none⟩ (.int .i64 za)) 67 (Cde.ia ⟨n.op,za,0,0,n.k,0⟩)
      rw[World.size_setCell] at hnw
      go_wp2_with (at_builtin;refine ins_list (L:=I) rfl _ _ rfl rfl HX6.out.s HX6.out.lo.size _ ⟨n.op,za,0,0,n.k,0⟩ rfl hnw (by omega) ?_;intro g2 cap2 w3 hown hgrow;obtain⟨v0,v1,v2,v3⟩:=four_of (own_grow HX6.out.s hgrow HX6.out.c (by decide));have yv:=(own_grow HX6.out.s hgrow HX6.out.c (by decide)).frozen 2;have HX7:=hide (HX6.out.grow hgrow hown);clear hown hgrow)
      go_roundw
      case rel=>exact⟨k+1,D++[(I.length:Int)],I++[⟨n.op,za,0,0,n.k,0⟩],_,_,by omega,by go_num,hide HD2.out,hide (by simpa using HX7.out)⟩
      case measure=>simp[intOf];omega
     ·rw[hq] at hpr
      have ha:=hpr n.a (by simp)
      have hb:=hpr n.b (by simp)
      obtain⟨pa,hpa⟩:∃ r:Nat,n.a=(r:Int):=⟨n.a.toNat,by omega⟩
      obtain⟨pb,hpb⟩:∃ r:Nat,n.b=(r:Int):=⟨n.b.toNat,by omega⟩
      rw[hpa] at ha
      rw[hpb] at hb
      simp only[Int.toNat_natCast] at ha hb
      obtain⟨za,hza⟩:∃ r,R.getD pa 0=r:=⟨_,rfl⟩
      obtain⟨zb,hzb⟩:∃ r,R.getD pb 0=r:=⟨_,rfl⟩
      have hx:loI f d D n=⟨n.op,za,zb,0,n.k,0⟩:=by
       unfold loI lrg
       rw[e,if_neg (by decide),if_pos rfl,hpa,hpb]
       simp only[Int.toNat_natCast]
       rw[HPre.out pa (by omega),hza,HPre.out pb (by omega),hzb,HK5n.out h5]
      rw[hx] at HD2
      rw[e] at HAr
      have q3:(n.op==3)=false:=by simp;omega
      have HRa:=hide fun(w:World) (hb:Below W.heap.size W w)=>HReg.out w pa (by omega) hb
      rw[hza] at HRa
      have HRb:=hide fun(w:World) (hb:Below W.heap.size W w)=>HReg.out w pb (by omega) hb
      rw[hzb] at HRb
      have Hpa:=hide hpa
      have Hpb:=hide hpb
      clear hx e hq hpr HPre ha hza hpa hb hzb hpb
      go_wp2_with fail
      obtain⟨V5,hV5⟩:∃ V5,(V.alloc (.cells (ndA n) 65)).alloc (.cells (msk n.op n.k) 67)=V5:=⟨_,rfl⟩
      rw[hV5] at HY0 ⊢
      clear hV5
      generalize V.heap.size=p at *
      clear hz2 hz3 t2
      have n1:¬W.heap.size=p+1:=by have:=HY0.out.hp;have:=HY0.out.a.hc;omega
      have n2:¬W.heap.size=p:=by have:=HY0.out.hp;have:=HY0.out.a.hc;omega
      have n3:¬gc=p+1:=by have:=HY0.out.hp;omega
      refine(HAr.out _).mono ?_
      rintro e w' ⟨rfl,hw5⟩
      subst hw5
      clear e0 e1 e2 e3 e4 e5 e6 e7 e8
      obtain⟨k0,k1,-,-⟩:=two_of HY0.out.a.k
      obtain⟨t0,t1,t2,t3⟩:=four_of HY0.out.a.t
      obtain⟨e0,e1,e2,e3,e4,e5,e6,e7,e8⟩:=nine_of HY0.out.n
      rw[Hpa.out] at e1
      rw[Hpb.out] at e2
      obtain⟨m0,m1,m2,m3,m4,m5,y0,y1,y2,y3,y4,y5⟩:=six_fz HY0.out.x
      go_wp2_with fail
      refine(HRa.out _ HY0.out.a.lo).mono ?_
      rintro e Ua ⟨rfl,hb⟩
      have HZa:=hide (HY0.out.below hb)
      clear hb
      clear k0 k1 t0 t1 t2 t3 e0 e1 e2 e3 e4 e5 e6 e7 e8 m0 m1 m2 m3 m4 m5 y0 y1 y2 y3 y4 y5
      obtain⟨k0,k1,-,-⟩:=two_of HZa.out.a.k
      obtain⟨t0,t1,t2,t3⟩:=four_of HZa.out.a.t
      obtain⟨e0,e1,e2,e3,e4,e5,e6,e7,e8⟩:=nine_of HZa.out.n
      rw[Hpa.out] at e1
      rw[Hpb.out] at e2
      obtain⟨m0,m1,m2,m3,m4,m5,y0,y1,y2,y3,y4,y5⟩:=six_fz HZa.out.x
      have HYa:=hide (HZa.out.put (i:=1) hne (.int .i64 za))
      go_wp2_with fail
      refine(HRb.out _ HYa.out.a.lo).mono ?_
      rintro e Ub ⟨rfl,hb⟩
      have HZb:=hide (HYa.out.below hb)
      clear hb
      clear k0 k1 t0 t1 t2 t3 e0 e1 e2 e3 e4 e5 e6 e7 e8 m0 m1 m2 m3 m4 m5 y0 y1 y2 y3 y4 y5
      obtain⟨k0,k1,-,-⟩:=two_of HZb.out.a.k
      obtain⟨t0,t1,t2,t3⟩:=four_of HZb.out.a.t
      obtain⟨e0,e1,e2,e3,e4,e5,e6,e7,e8⟩:=nine_of HZb.out.n
      rw[Hpa.out] at e1
      rw[Hpb.out] at e2
      obtain⟨m0,m1,m2,m3,m4,m5,y0,y1,y2,y3,y4,y5⟩:=six_fz HZb.out.x
      have HYb:=hide (HZb.out.put (i:=2) hne (.int .i64 zb))
      obtain⟨c0,c1,c2,c3⟩:=four_of HZb.out.a.c
      have HX6:=hide (HYb.out.a.below (bel1 (Ub.setCell ⟨p+1,2,none⟩ (.int .i64 zb)) (.cells (Cde.ia ⟨n.op,za,zb,0,n.k,0⟩) 67)))
      have hnw:=HasC.new (Ub.setCell ⟨p+1,2,none⟩ (.int .i64 zb)) 67 (Cde.ia ⟨n.op,za,zb,0,n.k,0⟩)
      rw[World.size_setCell] at hnw
      go_wp2_with (at_builtin;refine ins_list (L:=I) rfl _ _ rfl rfl HX6.out.s HX6.out.lo.size _ ⟨n.op,za,zb,0,n.k,0⟩ rfl hnw (by omega) ?_;intro g2 cap2 w3 hown hgrow;obtain⟨v0,v1,v2,v3⟩:=four_of (own_grow HX6.out.s hgrow HX6.out.c (by decide));have yv:=(own_grow HX6.out.s hgrow HX6.out.c (by decide)).frozen 2;have HX7:=hide (HX6.out.grow hgrow hown);clear hown hgrow)
      go_roundw
      case rel=>exact⟨k+1,D++[(I.length:Int)],I++[⟨n.op,za,zb,0,n.k,0⟩],_,_,by omega,by go_num,hide HD2.out,hide (by simpa using HX7.out)⟩
      case measure=>simp[intOf];omega
     ·rw[hq] at hpr
      have ha:=hpr n.a (by simp)
      have hb:=hpr n.b (by simp)
      have hc:=hpr n.c (by simp)
      obtain⟨pa,hpa⟩:∃ r:Nat,n.a=(r:Int):=⟨n.a.toNat,by omega⟩
      obtain⟨pb,hpb⟩:∃ r:Nat,n.b=(r:Int):=⟨n.b.toNat,by omega⟩
      obtain⟨pc,hpc⟩:∃ r:Nat,n.c=(r:Int):=⟨n.c.toNat,by omega⟩
      rw[hpa] at ha
      rw[hpb] at hb
      rw[hpc] at hc
      simp only[Int.toNat_natCast] at ha hb hc
      obtain⟨za,hza⟩:∃ r,R.getD pa 0=r:=⟨_,rfl⟩
      obtain⟨zb,hzb⟩:∃ r,R.getD pb 0=r:=⟨_,rfl⟩
      obtain⟨zc,hzc⟩:∃ r,R.getD pc 0=r:=⟨_,rfl⟩
      have hx:loI f d D n=⟨n.op,za,zb,zc,n.k,0⟩:=by
       unfold loI lrg
       rw[e,if_neg (by decide),if_neg (by decide),if_pos rfl,hpa,hpb,hpc]
       simp only[Int.toNat_natCast]
       rw[HPre.out pa (by omega),hza,HPre.out pb (by omega),hzb,HPre.out pc (by omega),hzc,HK5n.out h5]
      rw[hx] at HD2
      rw[e] at HAr
      have q3:(n.op==3)=false:=by simp;omega
      have HRa:=hide fun(w:World) (hb:Below W.heap.size W w)=>HReg.out w pa (by omega) hb
      rw[hza] at HRa
      have HRb:=hide fun(w:World) (hb:Below W.heap.size W w)=>HReg.out w pb (by omega) hb
      rw[hzb] at HRb
      have HRc:=hide fun(w:World) (hb:Below W.heap.size W w)=>HReg.out w pc (by omega) hb
      rw[hzc] at HRc
      have Hpa:=hide hpa
      have Hpb:=hide hpb
      have Hpc:=hide hpc
      clear hx e hq hpr HPre ha hza hpa hb hzb hpb hc hzc hpc
      go_wp2_with fail
      obtain⟨V5,hV5⟩:∃ V5,(V.alloc (.cells (ndA n) 65)).alloc (.cells (msk n.op n.k) 67)=V5:=⟨_,rfl⟩
      rw[hV5] at HY0 ⊢
      clear hV5
      generalize V.heap.size=p at *
      clear hz2 hz3 t2
      have n1:¬W.heap.size=p+1:=by have:=HY0.out.hp;have:=HY0.out.a.hc;omega
      have n2:¬W.heap.size=p:=by have:=HY0.out.hp;have:=HY0.out.a.hc;omega
      have n3:¬gc=p+1:=by have:=HY0.out.hp;omega
      refine(HAr.out _).mono ?_
      rintro e w' ⟨rfl,hw5⟩
      subst hw5
      clear e0 e1 e2 e3 e4 e5 e6 e7 e8
      obtain⟨k0,k1,-,-⟩:=two_of HY0.out.a.k
      obtain⟨t0,t1,t2,t3⟩:=four_of HY0.out.a.t
      obtain⟨e0,e1,e2,e3,e4,e5,e6,e7,e8⟩:=nine_of HY0.out.n
      rw[Hpa.out] at e1
      rw[Hpb.out] at e2
      rw[Hpc.out] at e3
      obtain⟨m0,m1,m2,m3,m4,m5,y0,y1,y2,y3,y4,y5⟩:=six_fz HY0.out.x
      go_wp2_with fail
      refine(HRa.out _ HY0.out.a.lo).mono ?_
      rintro e Ua ⟨rfl,hb⟩
      have HZa:=hide (HY0.out.below hb)
      clear hb
      clear k0 k1 t0 t1 t2 t3 e0 e1 e2 e3 e4 e5 e6 e7 e8 m0 m1 m2 m3 m4 m5 y0 y1 y2 y3 y4 y5
      obtain⟨k0,k1,-,-⟩:=two_of HZa.out.a.k
      obtain⟨t0,t1,t2,t3⟩:=four_of HZa.out.a.t
      obtain⟨e0,e1,e2,e3,e4,e5,e6,e7,e8⟩:=nine_of HZa.out.n
      rw[Hpa.out] at e1
      rw[Hpb.out] at e2
      rw[Hpc.out] at e3
      obtain⟨m0,m1,m2,m3,m4,m5,y0,y1,y2,y3,y4,y5⟩:=six_fz HZa.out.x
      have HYa:=hide (HZa.out.put (i:=1) hne (.int .i64 za))
      go_wp2_with fail
      refine(HRb.out _ HYa.out.a.lo).mono ?_
      rintro e Ub ⟨rfl,hb⟩
      have HZb:=hide (HYa.out.below hb)
      clear hb
      clear k0 k1 t0 t1 t2 t3 e0 e1 e2 e3 e4 e5 e6 e7 e8 m0 m1 m2 m3 m4 m5 y0 y1 y2 y3 y4 y5
      obtain⟨k0,k1,-,-⟩:=two_of HZb.out.a.k
      obtain⟨t0,t1,t2,t3⟩:=four_of HZb.out.a.t
      obtain⟨e0,e1,e2,e3,e4,e5,e6,e7,e8⟩:=nine_of HZb.out.n
      rw[Hpa.out] at e1
      rw[Hpb.out] at e2
      rw[Hpc.out] at e3
      obtain⟨m0,m1,m2,m3,m4,m5,y0,y1,y2,y3,y4,y5⟩:=six_fz HZb.out.x
      have HYb:=hide (HZb.out.put (i:=2) hne (.int .i64 zb))
      go_wp2_with fail
      refine(HRc.out _ HYb.out.a.lo).mono ?_
      rintro e Uc ⟨rfl,hb⟩
      have HZc:=hide (HYb.out.below hb)
      clear hb
      clear k0 k1 t0 t1 t2 t3 e0 e1 e2 e3 e4 e5 e6 e7 e8 m0 m1 m2 m3 m4 m5 y0 y1 y2 y3 y4 y5
      obtain⟨k0,k1,-,-⟩:=two_of HZc.out.a.k
      obtain⟨t0,t1,t2,t3⟩:=four_of HZc.out.a.t
      obtain⟨e0,e1,e2,e3,e4,e5,e6,e7,e8⟩:=nine_of HZc.out.n
      rw[Hpa.out] at e1
      rw[Hpb.out] at e2
      rw[Hpc.out] at e3
      obtain⟨m0,m1,m2,m3,m4,m5,y0,y1,y2,y3,y4,y5⟩:=six_fz HZc.out.x
      have HYc:=hide (HZc.out.put (i:=3) hne (.int .i64 zc))
      obtain⟨c0,c1,c2,c3⟩:=four_of HZc.out.a.c
      have HX6:=hide (HYc.out.a.below (bel1 (Uc.setCell ⟨p+1,3,none⟩ (.int .i64 zc)) (.cells (Cde.ia ⟨n.op,za,zb,zc,n.k,0⟩) 67)))
      have hnw:=HasC.new (Uc.setCell ⟨p+1,3,none⟩ (.int .i64 zc)) 67 (Cde.ia ⟨n.op,za,zb,zc,n.k,0⟩)
      rw[World.size_setCell] at hnw
      go_wp2_with (at_builtin;refine ins_list (L:=I) rfl _ _ rfl rfl HX6.out.s HX6.out.lo.size _ ⟨n.op,za,zb,zc,n.k,0⟩ rfl hnw (by omega) ?_;intro g2 cap2 w3 hown hgrow;obtain⟨v0,v1,v2,v3⟩:=four_of (own_grow HX6.out.s hgrow HX6.out.c (by decide));have yv:=(own_grow HX6.out.s hgrow HX6.out.c (by decide)).frozen 2;have HX7:=hide (HX6.out.grow hgrow hown);clear hown hgrow)
      go_roundw
      case rel=>exact⟨k+1,D++[(I.length:Int)],I++[⟨n.op,za,zb,zc,n.k,0⟩],_,_,by omega,by go_num,hide HD2.out,hide (by simpa using HX7.out)⟩
      case measure=>simp[intOf];omega
    ·obtain rfl:k=dl:=by omega
     have hD:=HD.out
     rw[List.take_of_length_le (by rw[HLN.out];exact Nat.le_refl _),HRJ.out] at hD
     cases hD
     obtain⟨c0,c1,c2,c3⟩:=four_of HX.out.c
     obtain⟨o0,o1,o2,o3⟩:=four_of HX.out.o
     have y0:=HX.out.o.frozen 0
     have y1:=HX.out.o.frozen 1
     have y2:=HX.out.o.frozen 2
     have y3:=HX.out.o.frozen 3
     have t2:=HX.out.t.cell 2 rfl
     have hgn:¬gc=W.heap.size+1+1:=by have:=HX.out.hc;omega
     have hgn2:¬W.heap.size+1+1=gc:=by have:=HX.out.hc;omega
     clear HD HLw HW HNm HK5 HReg HR0 HRJ
     go_wp2_with fail
     obtain⟨hp,hpb⟩:=put_four HX.out.o HX.out.lo (by omega) (.int .i64 f) (.int .i64 d) (.slice sa J.length sc) (.int .i64 z)
     have hs2:=own_four HX.out.s HX.out.o (by decide) (.int .i64 f) (.int .i64 d) (.slice sa J.length sc) (.int .i64 z)
     have p0:=hp.cell 0 rfl
     have p1:=hp.cell 1 rfl
     have p2:=hp.cell 2 rfl
     have p3:=hp.cell 3 rfl
     exact bodyPost_ret (v:=.tuple #[.agg (cdv f d (.slice sa J.length sc) z),.int .i64 0]) (by simp[results,Tryz.results9,go_sem,p0,p1,p2,p3]) rfl (by rw[HEv.out];exact⟨sa,sc,rfl,hs2,hpb⟩)
  refine wp_region_held_drew (S:=fun w=>HasC w W.heap.size 23 (kdA f d)/\HasC w (W.heap.size+1) 28 (tr4 (.slice na nl nc) (.slice ba bl bc) (.slice da dl dc) (.int .i64 (q:Int)))) (by kernel_rfl) HS1.out (fun _=>?_)
  refine wpAnyH_take (i:=0) (v:=.agg (kdA f d)) rfl (by kernel_rfl) (by kernel_rfl) (by kernel_rfl) (fun _ _ _ h=>by cases h.1) (Or.inl ⟨by rfl,fun w hS=>by obtain⟨a0,a1,-,-⟩:=two_of hS.1;obtain⟨b0,b1,b2,b3⟩:=four_of hS.2;go_simp⟩) HS1.out ?_
  refine wpAnyH_take (i:=1) (v:=.agg (tr4 (.slice na nl nc) (.slice ba bl bc) (.slice da dl dc) (.int .i64 (q:Int)))) rfl (by kernel_rfl) (by kernel_rfl) (by kernel_rfl) (fun _ _ _ h=>by cases h.1) (Or.inl ⟨by rfl,fun w hS=>by obtain⟨a0,a1,-,-⟩:=two_of hS.1;obtain⟨b0,b1,b2,b3⟩:=four_of hS.2;go_simp⟩) HS1.out ?_
  refine wpAnyH_take (i:=2) (v:=.pointer (some ⟨W.heap.size+1,3,none⟩)) rfl (by kernel_rfl) (by kernel_rfl) (by kernel_rfl) (fun _ _ _ h=>by cases h.1) (Or.inl ⟨by rfl,fun w hS=>by obtain⟨a0,a1,-,-⟩:=two_of hS.1;obtain⟨b0,b1,b2,b3⟩:=four_of hS.2;go_simp⟩) HS1.out ?_
  refine wpAnyH_take (i:=3) (v:=.int .i64 (q:Int)) rfl (by kernel_rfl) (by kernel_rfl) (by kernel_rfl) (fun _ _ _ h=>by cases h.1) (Or.inl ⟨by rfl,fun w hS=>by obtain⟨a0,a1,-,-⟩:=two_of hS.1;obtain⟨b0,b1,b2,b3⟩:=four_of hS.2;go_simp⟩) HS1.out ?_
  refine wpAnyH_ready (rs:=[4,6]) (by kernel_rfl) (by simp) (AllReadyH.cons rfl (fun K hK=>?_) (AllReadyH.cons rfl (fun K hK=>?_) AllReadyH.nil))
  ·go_simp
   refine(HR0.out _ (bel HB1.out (below_drew _))).mono ?_
   rintro r w2 ⟨rfl,hb⟩
   have hbz:=bel (below_drew V2) hb
   refine hK.out _ _ ⟨HK1.out.below hbz,HT1.out.below hbz⟩ (fun _=>?_)
   clear hK K
   refine wpAnyH_take (i:=5) (v:=.agg (cdv f d (.slice none 0 0) z)) rfl (by kernel_rfl) (by kernel_rfl) (by kernel_rfl) (fun _ _ _ h=>by cases h.1) (Or.inl ⟨by rfl,fun w hS=>by go_simp⟩) ⟨HK1.out.below hbz,HT1.out.below hbz⟩ ?_
   refine wpAnyH_ready (rs:=[6]) (by kernel_rfl) (by simp) (AllReadyH.cons rfl (fun K hK=>?_) AllReadyH.nil)
   go_simp
   have hbw:=bel hbz (bel1 w2 (.cells cdz 32))
   have HG:=hide (HasC.new w2 32 cdz)
   have hgs:W.heap.size+1+1 < w2.heap.size:=by have:=hbz.size;omega
   refine hK.out _ _ ⟨HK1.out.below hbw,HT1.out.below hbw⟩ (fun _=>?_)
   clear hK K
   obtain⟨w3,hw3⟩:∃ w3,w2.alloc (.cells cdz 32)=w3:=⟨_,rfl⟩
   rw[hw3] at hbw HG ⊢
   obtain⟨gc,hgc⟩:∃ gc,w2.heap.size=gc:=⟨_,rfl⟩
   rw[hgc] at HG hgs ⊢
   have HBw:=hide hbw
   clear hw3 hgc hbz hb hbw
   refine wpAnyH_ready (rs:=[7]) (by kernel_rfl) (by simp) (AllReadyH.cons rfl (fun K hK=>?_) AllReadyH.nil)
   obtain⟨x0,x1,x2,x3⟩:=four_of HG.out
   have x4:=HG.out.frozen 0
   have x5:=HG.out.frozen 1
   have x6:=HG.out.frozen 2
   have x7:=HG.out.frozen 3
   go_simp
   have HL0:Hid (Lc W ((((w3.setCell ⟨gc,0,none⟩ (.int .i64 f)).setCell ⟨gc,1,none⟩ (.int .i64 d)).setCell ⟨gc,2,none⟩ (.slice none 0 0)).setCell ⟨gc,3,none⟩ (.int .i64 z)) gc (kdA f d) (tr4 (.slice na nl nc) (.slice ba bl bc) (.slice da dl dc) (.int .i64 (q:Int))) cdz f d (.slice none 0 0) z []):=by
    obtain⟨hp,hpb⟩:=put_four HG.out (bel HB1.out HBw.out) (show W.heap.size<=gc by omega) (.int .i64 f) (.int .i64 d) (.slice none 0 0) (.int .i64 z)
    exact hide ⟨((((HK1.out.below HBw.out).other (p:=⟨gc,0,none⟩) (show W.heap.size≠gc by omega) _).other (p:=⟨gc,1,none⟩) (show W.heap.size≠gc by omega) _).other (p:=⟨gc,2,none⟩) (show W.heap.size≠gc by omega) _).other (p:=⟨gc,3,none⟩) (show W.heap.size≠gc by omega) _,
     ((((HT1.out.below HBw.out).other (p:=⟨gc,0,none⟩) (show W.heap.size+1≠gc by omega) _).other (p:=⟨gc,1,none⟩) (show W.heap.size+1≠gc by omega) _).other (p:=⟨gc,2,none⟩) (show W.heap.size+1≠gc by omega) _).other (p:=⟨gc,3,none⟩) (show W.heap.size+1≠gc by omega) _,
     ((((HO1.out.below HBw.out).other (p:=⟨gc,0,none⟩) (show W.heap.size+1+1≠gc by omega) _).other (p:=⟨gc,1,none⟩) (show W.heap.size+1+1≠gc by omega) _).other (p:=⟨gc,2,none⟩) (show W.heap.size+1+1≠gc by omega) _).other (p:=⟨gc,3,none⟩) (show W.heap.size+1+1≠gc by omega) _,
     hp,⟨rfl,.inl ⟨rfl,rfl⟩⟩,hgs,hpb⟩
   refine hK.out _ _ ⟨HL0.out.k,HL0.out.t⟩ (fun _=>?_)
   clear hK K
   refine wpAnyH_done (by kernel_rfl) ?_ _
   refine⟨rfl,gc,?_,HL0⟩
   simp only[List.setIfInBounds_toArray,List.set_cons_succ,List.set_cons_zero]
  ·go_simp
   have HG0:=hide (show HasC (V2.drew.alloc (.cells cdz 32)) V2.heap.size 32 cdz from HasC.new V2.drew 32 cdz)
   have hbx:=bel (below_drew V2) (bel1 V2.drew (.cells cdz 32))
   refine hK.out _ _ ⟨HK1.out.below hbx,HT1.out.below hbx⟩ (fun _=>?_)
   clear hK K
   refine wpAnyH_ready (rs:=[4]) (by kernel_rfl) (by simp) (AllReadyH.cons rfl (fun K hK=>?_) AllReadyH.nil)
   go_simp
   refine(HR0.out _ (bel HB1.out hbx)).mono ?_
   rintro r w2 ⟨rfl,hb⟩
   have hbw:=bel hbx hb
   have HG:=hide (HG0.out.below hb)
   have hgs:W.heap.size+1+1 < V2.heap.size:=hzo
   refine hK.out _ _ ⟨HK1.out.below hbw,HT1.out.below hbw⟩ (fun _=>?_)
   clear hK K
   refine wpAnyH_take (i:=5) (v:=.agg (cdv f d (.slice none 0 0) z)) rfl (by kernel_rfl) (by kernel_rfl) (by kernel_rfl) (fun _ _ _ h=>by cases h.1) (Or.inl ⟨by rfl,fun w hS=>by go_simp⟩) ⟨HK1.out.below hbw,HT1.out.below hbw⟩ ?_
   obtain⟨w3,hw3⟩:∃ w3,w2=w3:=⟨_,rfl⟩
   rw[hw3] at hbw HG ⊢
   obtain⟨gc,hgc⟩:∃ gc,V2.heap.size=gc:=⟨_,rfl⟩
   rw[hgc] at HG hgs ⊢
   have HBw:=hide hbw
   clear hw3 hgc hbx hb hbw HG0
   refine wpAnyH_ready (rs:=[7]) (by kernel_rfl) (by simp) (AllReadyH.cons rfl (fun K hK=>?_) AllReadyH.nil)
   obtain⟨x0,x1,x2,x3⟩:=four_of HG.out
   have x4:=HG.out.frozen 0
   have x5:=HG.out.frozen 1
   have x6:=HG.out.frozen 2
   have x7:=HG.out.frozen 3
   go_simp
   have HL0:Hid (Lc W ((((w3.setCell ⟨gc,0,none⟩ (.int .i64 f)).setCell ⟨gc,1,none⟩ (.int .i64 d)).setCell ⟨gc,2,none⟩ (.slice none 0 0)).setCell ⟨gc,3,none⟩ (.int .i64 z)) gc (kdA f d) (tr4 (.slice na nl nc) (.slice ba bl bc) (.slice da dl dc) (.int .i64 (q:Int))) cdz f d (.slice none 0 0) z []):=by
    obtain⟨hp,hpb⟩:=put_four HG.out (bel HB1.out HBw.out) (show W.heap.size<=gc by omega) (.int .i64 f) (.int .i64 d) (.slice none 0 0) (.int .i64 z)
    exact hide ⟨((((HK1.out.below HBw.out).other (p:=⟨gc,0,none⟩) (show W.heap.size≠gc by omega) _).other (p:=⟨gc,1,none⟩) (show W.heap.size≠gc by omega) _).other (p:=⟨gc,2,none⟩) (show W.heap.size≠gc by omega) _).other (p:=⟨gc,3,none⟩) (show W.heap.size≠gc by omega) _,
     ((((HT1.out.below HBw.out).other (p:=⟨gc,0,none⟩) (show W.heap.size+1≠gc by omega) _).other (p:=⟨gc,1,none⟩) (show W.heap.size+1≠gc by omega) _).other (p:=⟨gc,2,none⟩) (show W.heap.size+1≠gc by omega) _).other (p:=⟨gc,3,none⟩) (show W.heap.size+1≠gc by omega) _,
     ((((HO1.out.below HBw.out).other (p:=⟨gc,0,none⟩) (show W.heap.size+1+1≠gc by omega) _).other (p:=⟨gc,1,none⟩) (show W.heap.size+1+1≠gc by omega) _).other (p:=⟨gc,2,none⟩) (show W.heap.size+1+1≠gc by omega) _).other (p:=⟨gc,3,none⟩) (show W.heap.size+1+1≠gc by omega) _,
     hp,⟨rfl,.inl ⟨rfl,rfl⟩⟩,hgs,hpb⟩
   refine hK.out _ _ ⟨HL0.out.k,HL0.out.t⟩ (fun _=>?_)
   clear hK K
   refine wpAnyH_done (by kernel_rfl) ?_ _
   refine⟨rfl,gc,?_,HL0⟩
   simp only[List.setIfInBounds_toArray,List.set_cons_succ,List.set_cons_zero]
end Go.Proofs.YtngnnijpdjhelaaGreat
