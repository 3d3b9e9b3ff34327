import Derived.Test.YtngnnijpdjhelaaGreatX38
namespace Go.Proofs.YtngnnijpdjhelaaGreat
open Go.RowKit Go.IntWalk Lx Pz
set_option linter.unusedVariables false
set_option maxRecDepth 100000
set_option maxHeartbeats 16000000
theorem append_row {P:Program}(w:World){ops:Array Oper}{rest:List Oper}{o:Oper}{a:Act}{Q:Exit->Act->World->Prop}
  (hg:o.guard=none) (s x:Operand) (t:TypeId) (hop:o.op=Op.call { callee:=Callee.builtin Builtin.append,args:=#[s,x],argTypes:=#[t,t] })
  (base:Nat) (e:TypeId) (i:TypeInfo) (z:Value) (size bytes:Nat) (h1:P.underlying t=some (.slice e)) (h2:P.info? e=some i) (h3:i.zero=some z) (h4:i.size=size) (h5:i.bytes=bytes) (h6:z.cells.size=size) (h7:0 < size)
  (v:Value) (hs:a.eval s=v) (hown:w.ownsRow base e size v 0 []) (ao:Option Addr) (m c:Nat) (news:List Value) (hx:a.eval x=.slice ao m c) (hn:news.length=m*size)
  (hnone:ao=none->m=0/\c=0) (hc:∀ ad,ao=some ad->∀ j u,news[j]?=some u->w.cell? (ad.add j)=some u) (h1c:∀ u ∈ news,u.oneCell'=true)
  (b1:m<=maxLen) (b2:m*bytes<=140737488355328) (hbase:base<=w.heap.size)
  (hK:∀ v' w',w'.ownsRow base e size v' m news->w.grownBy w' v.ownBlock->wpList P ops Q rest (a.put o.dst v') w') :
  wpList P ops Q (o::rest) a w:=by
 cases ao with
 | none =>
  obtain⟨rfl,rfl⟩:=hnone rfl
  have hnews:news=[]:=List.eq_nil_of_length_eq_zero (by simpa using hn)
  subst hnews
  exact wpList_append_own_none hg s x t hop base e i size h1 h2 _ 0 [] hs hown hx (hK _ w hown (World.grownBy.refl _ _))
 | some ad =>
  refine wpList_append_own w hg s x t hop base e i z size bytes h1 h2 h3 h4 h5 h6 h7 _ 0 [] hs hown ad m c news hx hn (hc ad rfl) h1c (by omega) (by rw[Nat.zero_add];exact b2) hbase ?_
  intro v' w' ho hgr hiff
  exact hK v' w' (by simpa using ho) hgr
theorem Tx.news {w:World}{a:Option Addr}{n cap:Nat}{L:List Txt}(h:Tx w a n cap L):∀ ad,a=some ad->∀ j u,(tx64 L)[j]?=some u->w.cell? (ad.add j)=some u:=by
 intro ad ha j u hu
 have hj:j < n:=by
  have:=(List.getElem?_eq_some_iff.1 hu).1
  have h2:=h.len
  simp only[tx64,List.length_map] at this
  omega
 rcases h.cell with h0|⟨b,off,ha',hc⟩
 ·omega
 ·rw[ha] at ha'
  cases ha'
  rw[Addr.add_lit,hc j hj]
  have:=h.len
  simp only[tx64,List.getElem?_map,List.getElem?_eq_getElem (show j < L.length by omega),Option.map_some] at hu
  simp only[List.getD,List.getElem?_eq_getElem (show j < L.length by omega),Option.getD_some]
  exact hu
theorem Iz.news {w:World}{a:Option Addr}{n cap:Nat}{L:List Int}(h:Iz w a n cap L):∀ ad,a=some ad->∀ j u,(in64 L)[j]?=some u->w.cell? (ad.add j)=some u:=by
 intro ad ha j u hu
 have hj:j < n:=by
  have:=(List.getElem?_eq_some_iff.1 hu).1
  have h2:=h.len
  simp only[in64,List.length_map] at this
  omega
 rcases h.cell with h0|⟨b,off,ha',hb,hc⟩
 ·omega
 ·rw[ha] at ha'
  cases ha'
  rw[Addr.add_lit,hc j hj]
  have:=h.len
  simp only[in64,List.getElem?_map,List.getElem?_eq_getElem (show j < L.length by omega),Option.map_some] at hu
  simp only[List.getD,List.getElem?_eq_getElem (show j < L.length by omega),Option.getD_some]
  exact hu
theorem Nz.news {w:World}{a:Option Addr}{n cap:Nat}{L:List Nd}(h:Nz w a n cap L):∀ ad,a=some ad->∀ j u,(nd64 L)[j]?=some u->w.cell? (ad.add j)=some u:=by
 intro ad ha j u hu
 have h2:=h.len
 have hj:j < n*9:=by
  have:=(List.getElem?_eq_some_iff.1 hu).1
  rw[nd64_len] at this
  omega
 rcases h.cell with h0|⟨b,off,ha',hb,hc⟩
 ·omega
 ·rw[ha] at ha'
  cases ha'
  rw[Addr.add_lit]
  obtain⟨v,hv⟩:∃ v,(nd9 (L.getD (j / 9) n0))[j % 9]?=some v:=⟨(nd9 (L.getD (j / 9) n0))[j % 9]'(by simp[nd9];omega),List.getElem?_eq_getElem _⟩
  have h3:=hc (j / 9) (by omega) (j % 9) v hv
  have h4:=nd64_get L (j / 9) (by omega) (j % 9) v hv
  rw[show j / 9*9+j % 9=j by omega] at h4
  rw[h4] at hu
  cases hu
  rw[show off+j / 9*9+j % 9=off+j by omega] at h3
  exact h3
structure Cp (W0:World)(nv bv dv:Value)(root:Int)(NM:List Txt)(BS:List Int)(NS:List Nd)(d:Nat->Bool)(x3 x4 x5 x6 x7 x8 x9 x10 x11 x12 x13 x14 x15 x16 x17:Value)(w:World):Prop where
 bel:Below W0.heap.size W0 w
 tb:HasC w W0.heap.size 28 #[nv,bv,dv,.int .i64 root]
 rz:d 15=false->HasC w (W0.heap.size+1) 28 nil4
 r1:d 15=true->HasC w (W0.heap.size+1) 28 #[x6,x10,x14,.int .i64 root]
 n0:d 0=true->d 3=false->w.ownsRow W0.heap.size 9 1 x3 0 []
 n1:d 1=true->x4=.pointer (some ⟨W0.heap.size,0,none⟩)
 n2:d 2=true->x5=nv
 n3:d 3=true->w.ownsRow W0.heap.size 9 1 x6 NM.length (tx64 NM)
 b0:d 4=true->d 7=false->w.ownsRow W0.heap.size 3 1 x7 0 []
 b1:d 5=true->x8=.pointer (some ⟨W0.heap.size,1,none⟩)
 b2:d 6=true->x9=bv
 b3:d 7=true->w.ownsRow W0.heap.size 3 1 x10 BS.length (in64 BS)
 c0:d 8=true->d 11=false->w.ownsRow W0.heap.size 65 9 x11 0 []
 c1:d 9=true->x12=.pointer (some ⟨W0.heap.size,2,none⟩)
 c2:d 10=true->x13=dv
 c3:d 11=true->w.ownsRow W0.heap.size 65 9 x14 NS.length (nd64 NS)
 o1:d 12=true->x15=.pointer (some ⟨W0.heap.size,3,none⟩)
 o2:d 13=true->x16=.int .i64 root
 o3:d 14=true->x17=.agg #[x6,x10,x14,.int .i64 root]
 ph:d 15=true->∀ j,j < 15->d j=true
 p14:d 14=true->d 3=true/\d 7=true/\d 11=true/\d 13=true
theorem or_t {a b:Bool}(h:b=true):(a || b)=true:=by rw[h];simp
theorem tx_one (L:List Txt):∀ u ∈ tx64 L,u.oneCell'=true:=by
 intro u hu
 simp only[tx64,List.mem_map] at hu
 obtain⟨_,_,rfl⟩:=hu
 rfl
theorem in_one (L:List Int):∀ u ∈ in64 L,u.oneCell'=true:=by
 intro u hu
 simp only[in64,List.mem_map] at hu
 obtain⟨_,_,rfl⟩:=hu
 rfl
theorem nd_one (L:List Nd):∀ u ∈ nd64 L,u.oneCell'=true:=by
 intro u hu
 simp only[nd64,List.mem_flatMap] at hu
 obtain⟨n,_,hu⟩:=hu
 simp only[nd9,List.mem_cons,List.not_mem_nil,or_false] at hu
 rcases hu with rfl|rfl|rfl|rfl|rfl|rfl|rfl|rfl|rfl <;> rfl
theorem mixedC:Tryz.prog.follows .mixedOrders=true:=by kernel_rfl
def CopP (W:World)(nl bl dl:Nat)(root:Int)(NM:List Txt)(BS:List Int)(NS:List Nd)(e:Ending)(W':World):Prop :=
 ∃ nv bv dv,e=.returned (.agg #[nv,bv,dv,.int .i64 root])/\W'.ownsRow W.heap.size 9 1 nv nl (tx64 NM)/\W'.ownsRow W.heap.size 3 1 bv bl (in64 BS)/\W'.ownsRow W.heap.size 65 9 dv dl (nd64 NS)/\Below W.heap.size W W'
theorem res_copy {F:World}{A:Nat}{a b c d:Value}{tmps:Array Value}(hA:HasC F A 28 #[a,b,c,d])(h2:tmps[2]?=some (.pointer (some ⟨A,0,none⟩))) :
  (results Tryz.f23 tmps).run Tryz.prog F=.ok (.agg #[a,b,c,d]) F:=by
 obtain⟨c0,c1,c2,c3⟩:=facts4 hA
 simp[results,Tryz.results23,go_sem,h2,c0,c1,c2,c3]
theorem copy_any {W:World}{na ba da:Option Addr}{nl nc bl bc dl dc:Nat}{root:Int}{NM:List Txt}{BS:List Int}{NS:List Nd}(hX:Tx W na nl nc NM)(hB:Iz W ba bl bc BS)(hN:Nz W da dl dc NS)
  (hn1:na=none->nl=0/\nc=0) (hn2:ba=none->bl=0/\bc=0) (hn3:da=none->dl=0/\dc=0) (hs1:nl*16<=140737488355328) (hs2:bl*8<=140737488355328) (hs3:dl*72<=140737488355328) :
  Calls Tryz.prog 23 #[.agg #[.slice na nl nc,.slice ba bl bc,.slice da dl dc,.int .i64 root]] W fun e W'=>CopP W nl bl dl root NM BS NS e W':=by
 have HX:=hide hX
 have HB:=hide hB
 have HN:=hide hN
 have HS:=hide (show (na=none->nl=0/\nc=0)/\(ba=none->bl=0/\bc=0)/\(da=none->dl=0/\dc=0)/\nl*16<=140737488355328/\bl*8<=140737488355328/\dl*72<=140737488355328 from⟨hn1,hn2,hn3,hs1,hs2,hs3⟩)
 have hl1:=hide hX.len
 have hl2:=hide hB.len
 have hl3:=hide hN.len
 clear hX hB hN hn1 hn2 hn3 hs1 hs2 hs3
 obtain⟨i9,hi9,hz90,hz91,hz92⟩:=info_parts infoStr
 obtain⟨i3,hi3,hz30,hz31,hz32⟩:=info_parts infoInt
 obtain⟨iN,hiN,hzN0,hzN1,hzN2⟩:=info_parts infoN
 have HI9:=hide (And.intro hi9 (And.intro hz90 (And.intro hz91 hz92)))
 have HI3:=hide (And.intro hi3 (And.intro hz30 (And.intro hz31 hz32)))
 have HIN:=hide (And.intro hiN (And.intro hzN0 (And.intro hzN1 hzN2)))
 clear hi9 hz90 hz91 hz92 hi3 hz30 hz31 hz32 hiN hzN0 hzN1 hzN2
 go_enter Tryz.func23,Tryz.ntmps23
 go_wp2_with fail
 have HZ:=hide (HasC.new (W.alloc (.cells #[.slice na nl nc,.slice ba bl bc,.slice da dl dc,.int .i64 root] 28)) 28 nil4)
 rw[World.size_alloc] at HZ
 have HT:=hide ((HasC.new W 28 #[.slice na nl nc,.slice ba bl bc,.slice da dl dc,.int .i64 root]).alloc (.cells nil4 28))
 have HW:=hide (bel (bel1 W (.cells #[.slice na nl nc,.slice ba bl bc,.slice da dl dc,.int .i64 root] 28)) (bel1 (W.alloc (.cells #[.slice na nl nc,.slice ba bl bc,.slice da dl dc,.int .i64 root] 28)) (.cells nil4 28)))
 refine wp_region_flags mixedC (ord_of (by kernel_rfl)) (fun d a w=>∃ x3 x4 x5 x6 x7 x8 x9 x10 x11 x12 x13 x14 x15 x16 x17,a=⟨#[.agg #[.slice na nl nc,.slice ba bl bc,.slice da dl dc,.int .i64 root],.pointer (some ⟨W.heap.size,0,none⟩),.pointer (some ⟨W.heap.size+1,0,none⟩),x3,x4,x5,x6,x7,x8,x9,x10,x11,x12,x13,x14,x15,x16,x17],[]⟩/\Cp W (.slice na nl nc) (.slice ba bl bc) (.slice da dl dc) root NM BS NS d x3 x4 x5 x6 x7 x8 x9 x10 x11 x12 x13 x14 x15 x16 x17 w) ?_ ?_ ?_
 ·refine⟨_,_,_,_,_,_,_,_,_,_,_,_,_,_,_,rfl,⟨HW.out.os,HW.out.tape,HW.out.output,HW.out.size,HW.out.block⟩,HT.out,fun _=>HZ.out,?_,?_,?_,?_,?_,?_,?_,?_,?_,?_,?_,?_,?_,?_,?_,?_,?_,?_⟩
  all_goals intro h;cases h
 ·rintro d a w i o ⟨x3,x4,x5,x6,x7,x8,x9,x10,x11,x12,x13,x14,x15,x16,x17,rfl,C⟩ hdi ho haft Q' hk'
  have HK:=hide hk'
  clear hk'
  clear HZ HT HW
  have hi:i < 16:=(Array.getElem?_eq_some_iff.1 ho).1
  match i,hi with
  | 0,_ =>
   obtain rfl:=(Option.some.inj ho)
   have nope:d 15=true->False:=fun h=>by have h2:=C.ph h 0 (by decide);rw[hdi] at h2;cases h2
   clear haft ho
   have C:=hide C
   go_wp2
   have C:=C.out
   have hnew:(w.alloc (.cells #[] 9)).ownsRow W.heap.size 9 1 (.slice (some ⟨w.heap.size,0,none⟩) 0 0) 0 []:=⟨rfl,.inr ⟨_,0,#[],rfl,C.bel.size,heap_alloc_new w _,Nat.le_refl _,Nat.zero_le _,by simp,rfl⟩⟩
   have hb:Below W.heap.size W (w.alloc (.cells #[] 9)):=C.bel.alloc C.bel.size _
   have hk:Kp [] w (w.alloc (.cells #[] 9)):=Kp.of_below [] (bel1 w _)
   exact HK.out _ _ ⟨_,x4,x5,x6,x7,x8,x9,x10,x11,x12,x13,x14,x15,x16,x17,rfl,⟨hb,(C.tb.kp hk (by decide)),(fun h=>(C.rz h).kp hk (by decide)),(fun h=>(nope h).elim),(fun _ _=>hnew),C.n1,C.n2,(fun h=>owns_kp (C.n3 h) hk (by decide)),(fun h h2=>owns_kp (C.b0 h h2) hk (by decide)),C.b1,C.b2,(fun h=>owns_kp (C.b3 h) hk (by decide)),(fun h h2=>owns_kp (C.c0 h h2) hk (by decide)),C.c1,C.c2,(fun h=>owns_kp (C.c3 h) hk (by decide)),C.o1,C.o2,C.o3,(fun h=>(nope h).elim),(fun h=>⟨or_t (C.p14 h).1,or_t (C.p14 h).2.1,or_t (C.p14 h).2.2.1,or_t (C.p14 h).2.2.2⟩)⟩⟩
  | 1,_ =>
   obtain rfl:=(Option.some.inj ho)
   have nope:d 15=true->False:=fun h=>by have h2:=C.ph h 1 (by decide);rw[hdi] at h2;cases h2
   clear haft ho
   go_wp2
   exact HK.out _ _ ⟨x3,_,x5,x6,x7,x8,x9,x10,x11,x12,x13,x14,x15,x16,x17,rfl,⟨C.bel,C.tb,C.rz,(fun h=>(nope h).elim),C.n0,(fun _=>rfl),C.n2,C.n3,C.b0,C.b1,C.b2,C.b3,C.c0,C.c1,C.c2,C.c3,C.o1,C.o2,C.o3,(fun h=>(nope h).elim),(fun h=>⟨or_t (C.p14 h).1,or_t (C.p14 h).2.1,or_t (C.p14 h).2.2.1,or_t (C.p14 h).2.2.2⟩)⟩⟩
  | 2,_ =>
   obtain rfl:=(Option.some.inj ho)
   have nope:d 15=true->False:=fun h=>by have h2:=C.ph h 2 (by decide);rw[hdi] at h2;cases h2
   have g1:d 1=true:=haft ⟨1,.data⟩ (by simp) rfl
   clear haft ho
   have e1:=C.n1 g1
   subst e1
   obtain⟨q0,q1,q2,q3⟩:=facts4 C.tb
   have C:=hide C
   go_wp2
   have C:=C.out
   exact HK.out _ _ ⟨x3,_,_,x6,x7,x8,x9,x10,x11,x12,x13,x14,x15,x16,x17,rfl,⟨C.bel,C.tb,C.rz,(fun h=>(nope h).elim),C.n0,C.n1,(fun _=>rfl),C.n3,C.b0,C.b1,C.b2,C.b3,C.c0,C.c1,C.c2,C.c3,C.o1,C.o2,C.o3,(fun h=>(nope h).elim),(fun h=>⟨or_t (C.p14 h).1,or_t (C.p14 h).2.1,or_t (C.p14 h).2.2.1,or_t (C.p14 h).2.2.2⟩)⟩⟩
  | 3,_ =>
   obtain rfl:=(Option.some.inj ho)
   have nope:d 15=true->False:=fun h=>by have h2:=C.ph h 3 (by decide);rw[hdi] at h2;cases h2
   have g0:d 0=true:=haft ⟨0,.data⟩ (by simp) rfl
   have g2:d 2=true:=haft ⟨2,.data⟩ (by simp) rfl
   clear haft ho
   have e1:=C.n2 g2
   subst e1
   have hO:=C.n0 g0 hdi
   have hcap:=(HX.out.le)
   have hmax:=(HX.out.max)
   refine append_row w rfl (.tmp 3) (.tmp 5) 24 rfl W.heap.size 9 _ _ 1 16 Tryz.underlying24 HI9.out.1 HI9.out.2.1 HI9.out.2.2.1 HI9.out.2.2.2 rfl (by omega) x3 rfl hO na nl nc (tx64 NM) rfl (by simp[tx64,hl1.out]) HS.out.1 (HX.out.later C.bel).news (tx_one _) (by omega) HS.out.2.2.2.1 C.bel.size ?_
   intro v' w' hnew hgrow
   rw[<-hl1.out] at hnew
   have hk:Kp [9] w w':=Kp.grown hgrow fun k hk=>by
    obtain⟨_,cs,fr,hb⟩:=owns_block hO k hk
    exact⟨cs,_,fr,hb,by simp⟩
   have hb:Below W.heap.size W w':=C.bel.grown hgrow C.bel.size fun k hk=>(owns_block hO k hk).1
   exact HK.out _ _ ⟨x3,x4,_,_,x7,x8,x9,x10,x11,x12,x13,x14,x15,x16,x17,rfl,⟨hb,(C.tb.kp hk (by decide)),(fun h=>(C.rz h).kp hk (by decide)),(fun h=>(nope h).elim),(fun _ h=>by cases h),C.n1,C.n2,(fun _=>hnew),(fun h h2=>owns_kp (C.b0 h h2) hk (by decide)),C.b1,C.b2,(fun h=>owns_kp (C.b3 h) hk (by decide)),(fun h h2=>owns_kp (C.c0 h h2) hk (by decide)),C.c1,C.c2,(fun h=>owns_kp (C.c3 h) hk (by decide)),C.o1,C.o2,(fun h=>by have h2:=(C.p14 h).1;rw[hdi] at h2;cases h2),(fun h=>(nope h).elim),(fun h=>⟨or_t (C.p14 h).1,or_t (C.p14 h).2.1,or_t (C.p14 h).2.2.1,or_t (C.p14 h).2.2.2⟩)⟩⟩
  | 4,_ =>
   obtain rfl:=(Option.some.inj ho)
   have nope:d 15=true->False:=fun h=>by have h2:=C.ph h 4 (by decide);rw[hdi] at h2;cases h2
   clear haft ho
   have C:=hide C
   go_wp2
   have C:=C.out
   have hnew:(w.alloc (.cells #[] 3)).ownsRow W.heap.size 3 1 (.slice (some ⟨w.heap.size,0,none⟩) 0 0) 0 []:=⟨rfl,.inr ⟨_,0,#[],rfl,C.bel.size,heap_alloc_new w _,Nat.le_refl _,Nat.zero_le _,by simp,rfl⟩⟩
   have hb:Below W.heap.size W (w.alloc (.cells #[] 3)):=C.bel.alloc C.bel.size _
   have hk:Kp [] w (w.alloc (.cells #[] 3)):=Kp.of_below [] (bel1 w _)
   exact HK.out _ _ ⟨x3,x4,x5,x6,_,x8,x9,x10,x11,x12,x13,x14,x15,x16,x17,rfl,⟨hb,(C.tb.kp hk (by decide)),(fun h=>(C.rz h).kp hk (by decide)),(fun h=>(nope h).elim),(fun h h2=>owns_kp (C.n0 h h2) hk (by decide)),C.n1,C.n2,(fun h=>owns_kp (C.n3 h) hk (by decide)),(fun _ _=>hnew),C.b1,C.b2,(fun h=>owns_kp (C.b3 h) hk (by decide)),(fun h h2=>owns_kp (C.c0 h h2) hk (by decide)),C.c1,C.c2,(fun h=>owns_kp (C.c3 h) hk (by decide)),C.o1,C.o2,C.o3,(fun h=>(nope h).elim),(fun h=>⟨or_t (C.p14 h).1,or_t (C.p14 h).2.1,or_t (C.p14 h).2.2.1,or_t (C.p14 h).2.2.2⟩)⟩⟩
  | 5,_ =>
   obtain rfl:=(Option.some.inj ho)
   have nope:d 15=true->False:=fun h=>by have h2:=C.ph h 5 (by decide);rw[hdi] at h2;cases h2
   clear haft ho
   go_wp2
   exact HK.out _ _ ⟨x3,x4,x5,x6,x7,_,x9,x10,x11,x12,x13,x14,x15,x16,x17,rfl,⟨C.bel,C.tb,C.rz,(fun h=>(nope h).elim),C.n0,C.n1,C.n2,C.n3,C.b0,(fun _=>rfl),C.b2,C.b3,C.c0,C.c1,C.c2,C.c3,C.o1,C.o2,C.o3,(fun h=>(nope h).elim),(fun h=>⟨or_t (C.p14 h).1,or_t (C.p14 h).2.1,or_t (C.p14 h).2.2.1,or_t (C.p14 h).2.2.2⟩)⟩⟩
  | 6,_ =>
   obtain rfl:=(Option.some.inj ho)
   have nope:d 15=true->False:=fun h=>by have h2:=C.ph h 6 (by decide);rw[hdi] at h2;cases h2
   have g5:d 5=true:=haft ⟨5,.data⟩ (by simp) rfl
   clear haft ho
   have e1:=C.b1 g5
   subst e1
   obtain⟨q0,q1,q2,q3⟩:=facts4 C.tb
   have C:=hide C
   go_wp2
   have C:=C.out
   exact HK.out _ _ ⟨x3,x4,x5,x6,x7,_,_,x10,x11,x12,x13,x14,x15,x16,x17,rfl,⟨C.bel,C.tb,C.rz,(fun h=>(nope h).elim),C.n0,C.n1,C.n2,C.n3,C.b0,C.b1,(fun _=>rfl),C.b3,C.c0,C.c1,C.c2,C.c3,C.o1,C.o2,C.o3,(fun h=>(nope h).elim),(fun h=>⟨or_t (C.p14 h).1,or_t (C.p14 h).2.1,or_t (C.p14 h).2.2.1,or_t (C.p14 h).2.2.2⟩)⟩⟩
  | 7,_ =>
   obtain rfl:=(Option.some.inj ho)
   have nope:d 15=true->False:=fun h=>by have h2:=C.ph h 7 (by decide);rw[hdi] at h2;cases h2
   have g4:d 4=true:=haft ⟨4,.data⟩ (by simp) rfl
   have g6:d 6=true:=haft ⟨6,.data⟩ (by simp) rfl
   clear haft ho
   have e1:=C.b2 g6
   subst e1
   have hO:=C.b0 g4 hdi
   have hcap:=(HB.out.le)
   have hmax:=(HB.out.max)
   refine append_row w rfl (.tmp 7) (.tmp 9) 25 rfl W.heap.size 3 _ _ 1 8 Tryz.underlying25 HI3.out.1 HI3.out.2.1 HI3.out.2.2.1 HI3.out.2.2.2 rfl (by omega) x7 rfl hO ba bl bc (in64 BS) rfl (by simp[in64,hl2.out]) HS.out.2.1 (HB.out.later C.bel).news (in_one _) (by omega) HS.out.2.2.2.2.1 C.bel.size ?_
   intro v' w' hnew hgrow
   rw[<-hl2.out] at hnew
   have hk:Kp [3] w w':=Kp.grown hgrow fun k hk=>by
    obtain⟨_,cs,fr,hb⟩:=owns_block hO k hk
    exact⟨cs,_,fr,hb,by simp⟩
   have hb:Below W.heap.size W w':=C.bel.grown hgrow C.bel.size fun k hk=>(owns_block hO k hk).1
   exact HK.out _ _ ⟨x3,x4,x5,x6,x7,x8,_,_,x11,x12,x13,x14,x15,x16,x17,rfl,⟨hb,(C.tb.kp hk (by decide)),(fun h=>(C.rz h).kp hk (by decide)),(fun h=>(nope h).elim),(fun h h2=>owns_kp (C.n0 h h2) hk (by decide)),C.n1,C.n2,(fun h=>owns_kp (C.n3 h) hk (by decide)),(fun _ h=>by cases h),C.b1,C.b2,(fun _=>hnew),(fun h h2=>owns_kp (C.c0 h h2) hk (by decide)),C.c1,C.c2,(fun h=>owns_kp (C.c3 h) hk (by decide)),C.o1,C.o2,(fun h=>by have h2:=(C.p14 h).2.1;rw[hdi] at h2;cases h2),(fun h=>(nope h).elim),(fun h=>⟨or_t (C.p14 h).1,or_t (C.p14 h).2.1,or_t (C.p14 h).2.2.1,or_t (C.p14 h).2.2.2⟩)⟩⟩
  | 8,_ =>
   obtain rfl:=(Option.some.inj ho)
   have nope:d 15=true->False:=fun h=>by have h2:=C.ph h 8 (by decide);rw[hdi] at h2;cases h2
   clear haft ho
   have C:=hide C
   go_wp2
   have C:=C.out
   have hnew:(w.alloc (.cells #[] 65)).ownsRow W.heap.size 65 9 (.slice (some ⟨w.heap.size,0,none⟩) 0 0) 0 []:=⟨rfl,.inr ⟨_,0,#[],rfl,C.bel.size,heap_alloc_new w _,Nat.le_refl _,Nat.zero_le _,by simp,rfl⟩⟩
   have hb:Below W.heap.size W (w.alloc (.cells #[] 65)):=C.bel.alloc C.bel.size _
   have hk:Kp [] w (w.alloc (.cells #[] 65)):=Kp.of_below [] (bel1 w _)
   exact HK.out _ _ ⟨x3,x4,x5,x6,x7,x8,x9,x10,_,x12,x13,x14,x15,x16,x17,rfl,⟨hb,(C.tb.kp hk (by decide)),(fun h=>(C.rz h).kp hk (by decide)),(fun h=>(nope h).elim),(fun h h2=>owns_kp (C.n0 h h2) hk (by decide)),C.n1,C.n2,(fun h=>owns_kp (C.n3 h) hk (by decide)),(fun h h2=>owns_kp (C.b0 h h2) hk (by decide)),C.b1,C.b2,(fun h=>owns_kp (C.b3 h) hk (by decide)),(fun _ _=>hnew),C.c1,C.c2,(fun h=>owns_kp (C.c3 h) hk (by decide)),C.o1,C.o2,C.o3,(fun h=>(nope h).elim),(fun h=>⟨or_t (C.p14 h).1,or_t (C.p14 h).2.1,or_t (C.p14 h).2.2.1,or_t (C.p14 h).2.2.2⟩)⟩⟩
  | 9,_ =>
   obtain rfl:=(Option.some.inj ho)
   have nope:d 15=true->False:=fun h=>by have h2:=C.ph h 9 (by decide);rw[hdi] at h2;cases h2
   clear haft ho
   go_wp2
   exact HK.out _ _ ⟨x3,x4,x5,x6,x7,x8,x9,x10,x11,_,x13,x14,x15,x16,x17,rfl,⟨C.bel,C.tb,C.rz,(fun h=>(nope h).elim),C.n0,C.n1,C.n2,C.n3,C.b0,C.b1,C.b2,C.b3,C.c0,(fun _=>rfl),C.c2,C.c3,C.o1,C.o2,C.o3,(fun h=>(nope h).elim),(fun h=>⟨or_t (C.p14 h).1,or_t (C.p14 h).2.1,or_t (C.p14 h).2.2.1,or_t (C.p14 h).2.2.2⟩)⟩⟩
  | 10,_ =>
   obtain rfl:=(Option.some.inj ho)
   have nope:d 15=true->False:=fun h=>by have h2:=C.ph h 10 (by decide);rw[hdi] at h2;cases h2
   have g9:d 9=true:=haft ⟨9,.data⟩ (by simp) rfl
   clear haft ho
   have e1:=C.c1 g9
   subst e1
   obtain⟨q0,q1,q2,q3⟩:=facts4 C.tb
   have C:=hide C
   go_wp2
   have C:=C.out
   exact HK.out _ _ ⟨x3,x4,x5,x6,x7,x8,x9,x10,x11,_,_,x14,x15,x16,x17,rfl,⟨C.bel,C.tb,C.rz,(fun h=>(nope h).elim),C.n0,C.n1,C.n2,C.n3,C.b0,C.b1,C.b2,C.b3,C.c0,C.c1,(fun _=>rfl),C.c3,C.o1,C.o2,C.o3,(fun h=>(nope h).elim),(fun h=>⟨or_t (C.p14 h).1,or_t (C.p14 h).2.1,or_t (C.p14 h).2.2.1,or_t (C.p14 h).2.2.2⟩)⟩⟩
  | 11,_ =>
   obtain rfl:=(Option.some.inj ho)
   have nope:d 15=true->False:=fun h=>by have h2:=C.ph h 11 (by decide);rw[hdi] at h2;cases h2
   have g8:d 8=true:=haft ⟨8,.data⟩ (by simp) rfl
   have g10:d 10=true:=haft ⟨10,.data⟩ (by simp) rfl
   clear haft ho
   have e1:=C.c2 g10
   subst e1
   have hO:=C.c0 g8 hdi
   have hcap:=(HN.out.le)
   have hmax:=(HN.out.max)
   refine append_row w rfl (.tmp 11) (.tmp 13) 26 rfl W.heap.size 65 _ _ 9 72 Tryz.underlying26 HIN.out.1 HIN.out.2.1 HIN.out.2.2.1 HIN.out.2.2.2 rfl (by omega) x11 rfl hO da dl dc (nd64 NS) rfl (by rw[nd64_len,hl3.out]) HS.out.2.2.1 (HN.out.later C.bel).news (nd_one _) (by omega) HS.out.2.2.2.2.2 C.bel.size ?_
   intro v' w' hnew hgrow
   rw[<-hl3.out] at hnew
   have hk:Kp [65] w w':=Kp.grown hgrow fun k hk=>by
    obtain⟨_,cs,fr,hb⟩:=owns_block hO k hk
    exact⟨cs,_,fr,hb,by simp⟩
   have hb:Below W.heap.size W w':=C.bel.grown hgrow C.bel.size fun k hk=>(owns_block hO k hk).1
   exact HK.out _ _ ⟨x3,x4,x5,x6,x7,x8,x9,x10,x11,x12,_,_,x15,x16,x17,rfl,⟨hb,(C.tb.kp hk (by decide)),(fun h=>(C.rz h).kp hk (by decide)),(fun h=>(nope h).elim),(fun h h2=>owns_kp (C.n0 h h2) hk (by decide)),C.n1,C.n2,(fun h=>owns_kp (C.n3 h) hk (by decide)),(fun h h2=>owns_kp (C.b0 h h2) hk (by decide)),C.b1,C.b2,(fun h=>owns_kp (C.b3 h) hk (by decide)),(fun _ h=>by cases h),C.c1,C.c2,(fun _=>hnew),C.o1,C.o2,(fun h=>by have h2:=(C.p14 h).2.2.1;rw[hdi] at h2;cases h2),(fun h=>(nope h).elim),(fun h=>⟨or_t (C.p14 h).1,or_t (C.p14 h).2.1,or_t (C.p14 h).2.2.1,or_t (C.p14 h).2.2.2⟩)⟩⟩
  | 12,_ =>
   obtain rfl:=(Option.some.inj ho)
   have nope:d 15=true->False:=fun h=>by have h2:=C.ph h 12 (by decide);rw[hdi] at h2;cases h2
   clear haft ho
   go_wp2
   exact HK.out _ _ ⟨x3,x4,x5,x6,x7,x8,x9,x10,x11,x12,x13,x14,_,x16,x17,rfl,⟨C.bel,C.tb,C.rz,(fun h=>(nope h).elim),C.n0,C.n1,C.n2,C.n3,C.b0,C.b1,C.b2,C.b3,C.c0,C.c1,C.c2,C.c3,(fun _=>rfl),C.o2,C.o3,(fun h=>(nope h).elim),(fun h=>⟨or_t (C.p14 h).1,or_t (C.p14 h).2.1,or_t (C.p14 h).2.2.1,or_t (C.p14 h).2.2.2⟩)⟩⟩
  | 13,_ =>
   obtain rfl:=(Option.some.inj ho)
   have nope:d 15=true->False:=fun h=>by have h2:=C.ph h 13 (by decide);rw[hdi] at h2;cases h2
   have g12:d 12=true:=haft ⟨12,.data⟩ (by simp) rfl
   clear haft ho
   have e1:=C.o1 g12
   subst e1
   obtain⟨q0,q1,q2,q3⟩:=facts4 C.tb
   have C:=hide C
   go_wp2
   have C:=C.out
   exact HK.out _ _ ⟨x3,x4,x5,x6,x7,x8,x9,x10,x11,x12,x13,x14,_,_,x17,rfl,⟨C.bel,C.tb,C.rz,(fun h=>(nope h).elim),C.n0,C.n1,C.n2,C.n3,C.b0,C.b1,C.b2,C.b3,C.c0,C.c1,C.c2,C.c3,C.o1,(fun _=>rfl),C.o3,(fun h=>(nope h).elim),(fun h=>⟨or_t (C.p14 h).1,or_t (C.p14 h).2.1,or_t (C.p14 h).2.2.1,or_t (C.p14 h).2.2.2⟩)⟩⟩
  | 14,_ =>
   obtain rfl:=(Option.some.inj ho)
   have nope:d 15=true->False:=fun h=>by have h2:=C.ph h 14 (by decide);rw[hdi] at h2;cases h2
   have g3:d 3=true:=haft ⟨3,.data⟩ (by simp) rfl
   have g7:d 7=true:=haft ⟨7,.data⟩ (by simp) rfl
   have g11:d 11=true:=haft ⟨11,.data⟩ (by simp) rfl
   have g13:d 13=true:=haft ⟨13,.data⟩ (by simp) rfl
   clear haft ho
   have e1:=C.o2 g13
   subst e1
   obtain⟨n1,n2,hn3⟩:=owns_form (C.n3 g3)
   obtain⟨b1,b2,hb3⟩:=owns_form (C.b3 g7)
   obtain⟨c1,c2,hc3⟩:=owns_form (C.c3 g11)
   subst hn3 hb3 hc3
   have C:=hide C
   go_wp2
   have C:=C.out
   exact HK.out _ _ ⟨x3,x4,x5,_,x7,x8,x9,_,x11,x12,x13,_,x15,_,_,rfl,⟨C.bel,C.tb,C.rz,(fun h=>(nope h).elim),C.n0,C.n1,C.n2,C.n3,C.b0,C.b1,C.b2,C.b3,C.c0,C.c1,C.c2,C.c3,C.o1,C.o2,(fun _=>rfl),(fun h=>(nope h).elim),(fun _=>⟨or_t g3,or_t g7,or_t g11,or_t g13⟩)⟩⟩
  | 15,_ =>
   obtain rfl:=(Option.some.inj ho)
   have g0:d 0=true:=haft ⟨0,.phase⟩ (by simp) rfl
   have g1:d 1=true:=haft ⟨1,.phase⟩ (by simp) rfl
   have g2:d 2=true:=haft ⟨2,.phase⟩ (by simp) rfl
   have g3:d 3=true:=haft ⟨3,.phase⟩ (by simp) rfl
   have g4:d 4=true:=haft ⟨4,.phase⟩ (by simp) rfl
   have g5:d 5=true:=haft ⟨5,.phase⟩ (by simp) rfl
   have g6:d 6=true:=haft ⟨6,.phase⟩ (by simp) rfl
   have g7:d 7=true:=haft ⟨7,.phase⟩ (by simp) rfl
   have g8:d 8=true:=haft ⟨8,.phase⟩ (by simp) rfl
   have g9:d 9=true:=haft ⟨9,.phase⟩ (by simp) rfl
   have g10:d 10=true:=haft ⟨10,.phase⟩ (by simp) rfl
   have g11:d 11=true:=haft ⟨11,.phase⟩ (by simp) rfl
   have g12:d 12=true:=haft ⟨12,.phase⟩ (by simp) rfl
   have g13:d 13=true:=haft ⟨13,.phase⟩ (by simp) rfl
   have g14:d 14=true:=haft ⟨14,.phase⟩ (by simp) rfl
   have D15:∀ j,j < 15->d j=true:=fun j hj=>match j,hj with|0,_=>g0|1,_=>g1|2,_=>g2|3,_=>g3|4,_=>g4|5,_=>g5|6,_=>g6|7,_=>g7|8,_=>g8|9,_=>g9|10,_=>g10|11,_=>g11|12,_=>g12|13,_=>g13|14,_=>g14
   clear haft ho
   have e1:=C.o3 g14
   subst e1
   obtain⟨n1,n2,hn3⟩:=owns_form (C.n3 g3)
   obtain⟨b1,b2,hb3⟩:=owns_form (C.b3 g7)
   obtain⟨c1,c2,hc3⟩:=owns_form (C.c3 g11)
   subst hn3 hb3 hc3
   obtain⟨q0,q1,q2,q3⟩:=facts4 (C.rz hdi)
   obtain⟨z0,z1,z2,z3⟩:=free4 (C.rz hdi)
   have C:=hide C
   go_wp2
   have C:=C.out
   have h4:=((((C.rz hdi).set 0 (.slice n1 NM.length n2)).set 1 (.slice b1 BS.length b2)).set 2 (.slice c1 NS.length c2)).set 3 (.int .i64 root)
   have hk:=((Kp.set (C.rz hdi) (List.mem_singleton.2 rfl) 0 (.slice n1 NM.length n2)).trans (Kp.set ((C.rz hdi).set 0 (.slice n1 NM.length n2)) (List.mem_singleton.2 rfl) 1 (.slice b1 BS.length b2))).trans ((Kp.set (((C.rz hdi).set 0 (.slice n1 NM.length n2)).set 1 (.slice b1 BS.length b2)) (List.mem_singleton.2 rfl) 2 (.slice c1 NS.length c2)).trans (Kp.set ((((C.rz hdi).set 0 (.slice n1 NM.length n2)).set 1 (.slice b1 BS.length b2)).set 2 (.slice c1 NS.length c2)) (List.mem_singleton.2 rfl) 3 (.int .i64 root)))
   have ht:=(((C.tb.other (p:=⟨W.heap.size+1,0,none⟩) (show W.heap.size≠W.heap.size+1 by omega) (.slice n1 NM.length n2)).other (p:=⟨W.heap.size+1,1,none⟩) (show W.heap.size≠W.heap.size+1 by omega) (.slice b1 BS.length b2)).other (p:=⟨W.heap.size+1,2,none⟩) (show W.heap.size≠W.heap.size+1 by omega) (.slice c1 NS.length c2)).other (p:=⟨W.heap.size+1,3,none⟩) (show W.heap.size≠W.heap.size+1 by omega) (.int .i64 root)
   have hb:=(((C.bel.setCell (p:=⟨W.heap.size+1,0,none⟩) (by simp) (.slice n1 NM.length n2)).setCell (p:=⟨W.heap.size+1,1,none⟩) (by simp) (.slice b1 BS.length b2)).setCell (p:=⟨W.heap.size+1,2,none⟩) (by simp) (.slice c1 NS.length c2)).setCell (p:=⟨W.heap.size+1,3,none⟩) (by simp) (.int .i64 root)
   exact HK.out _ _ ⟨x3,x4,x5,_,x7,x8,x9,_,x11,x12,x13,_,x15,x16,_,rfl,⟨hb,ht,(fun h=>by cases h),(fun _=>h4),(fun h h2=>owns_kp (C.n0 h h2) hk (by decide)),C.n1,C.n2,(fun h=>owns_kp (C.n3 h) hk (by decide)),(fun h h2=>owns_kp (C.b0 h h2) hk (by decide)),C.b1,C.b2,(fun h=>owns_kp (C.b3 h) hk (by decide)),(fun h h2=>owns_kp (C.c0 h h2) hk (by decide)),C.c1,C.c2,(fun h=>owns_kp (C.c3 h) hk (by decide)),C.o1,C.o2,(fun _=>rfl),(fun _ j hj=>or_t (D15 j hj)),(fun h=>⟨or_t (C.p14 h).1,or_t (C.p14 h).2.1,or_t (C.p14 h).2.2.1,or_t (C.p14 h).2.2.2⟩)⟩⟩
 ·rintro d a w ⟨x3,x4,x5,x6,x7,x8,x9,x10,x11,x12,x13,x14,x15,x16,x17,rfl,C⟩ hall
  have D:∀ i,i < 16->d i=true:=hall
  go_wp2
  exact bodyPost_ret (res_copy (C.r1 (D 15 (by omega))) rfl) rfl ⟨x6,x10,x14,rfl,hl1.out ▸ C.n3 (D 3 (by omega)),hl2.out ▸ C.b3 (D 7 (by omega)),hl3.out ▸ C.c3 (D 11 (by omega)),C.bel⟩
end Go.Proofs.YtngnnijpdjhelaaGreat
