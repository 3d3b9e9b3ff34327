import Derived.Orders
import Derived.Tactics
import Derived.Test.YtngnnijpdjhelaaGreatX37
namespace Go.Proofs.YtngnnijpdjhelaaGreat
open Go.RowKit Go.IntWalk Lx Pz
set_option linter.unusedVariables false
set_option maxRecDepth 100000
set_option maxHeartbeats 16000000
abbrev inA (L:List Int):Array Value:=(in64 L).toArray
theorem info3c:(Tryz.prog.info? 3).map (fun i=>(i.zero,i.size,i.bytes))=some (some (.int .i64 0),1,8):=by kernel_rfl
theorem inA_get (L:List Int)(i:Nat)(h:i < L.length):(inA L)[i]?=some (.int .i64 (L.getD i 0)):=by
 unfold inA
 rw[List.getElem?_toArray,List.getElem?_map,List.getD_eq_getElem?_getD,List.getElem?_eq_getElem h]
 rfl
theorem made_in (n:Nat):madeCells #[.int .i64 0] (n*1)=inA (List.replicate n 0):=by
 apply Array.ext_getElem?
 intro i
 by_cases hi:i < n
 ·rw[inA_get _ _ (by simpa using hi)]
  unfold madeCells
  rw[Array.getElem?_map,Array.getElem?_eq_getElem (by simpa using hi)]
  have hz:(List.replicate n (0:Int)).getD i 0=0:=by
   rw[List.getD_eq_getElem?_getD,List.getElem?_replicate];split <;> rfl
  rw[hz]
  simp only[Array.getElem_range,Option.map_some]
  show some ((#[Value.int .i64 0])[i % 1]!)=_
  rw[Nat.mod_one]
  rfl
 ·rw[Array.getElem?_eq_none (by rw[size_madeCells];omega),Array.getElem?_eq_none (by simp;omega)]
theorem make_in (n:Nat)(h:n<=1024)(w:World):(Instr.makeSlice 25 (.int .i64 n) (.int .i64 n)).run Tryz.prog w=.ok (.slice (some ⟨w.heap.size,0,none⟩) n n) (w.alloc (.cells (inA (List.replicate n 0)) 3)):=by
 obtain⟨i0,hi,hz0,hz1,hz2⟩:=Spn.info_parts info3c
 have:=run_make w 25 3 i0 _ Tryz.underlying25 hi hz0 .i64 .i64 n n (by omega) (Int.le_refl _) (by rw[hz2];omega) (by omega)
 rw[hz1] at this
 simp only[Int.toNat_natCast] at this
 have e:madeCells (Value.int .i64 0).cells (n*1)=inA (List.replicate n 0):=made_in n
 rw[e] at this
 exact this
theorem put_in {W:World}{g k:Nat}{D Z:List Int}{q:Int}(h:HasC W g 3 (inA (D++q::Z)))(hk:D.length=k)(x:Int):HasC (W.setCell ⟨g,k,none⟩ (.int .i64 x)) g 3 (inA (D++x::Z)):=by
 subst hk
 have:=h.set D.length (.int .i64 x)
 have e:(inA (D++q::Z)).setIfInBounds D.length (.int .i64 x)=inA (D++x::Z):=by
  apply Array.toList_inj.1
  simp only[Array.toList_setIfInBounds,List.map_append,List.map_cons]
  rw[List.set_append_right _ _ (by simp)]
  simp
 rwa[e] at this
theorem has_iz {W:World}{g:Nat}{L:List Int}(h:HasC W g 3 (inA L))(hl:L.length<=1024):Iz W (some ⟨g,0,none⟩) L.length L.length L:=by
 refine⟨rfl,Nat.le_refl _,by unfold maxLen;omega,.inr ⟨g,0,rfl,h.lt,fun i hi=>?_⟩⟩
 rw[Nat.zero_add]
 exact h.cell i (inA_get L i hi)
theorem getI_pre {S Z:List Int}{i:Nat}(h:i < S.length):(S++Z).getD i 0=S.getD i 0:=by
 rw[List.getD_eq_getElem?_getD,List.getElem?_append_left h,<-List.getD_eq_getElem?_getD]
theorem repI_succ {n k:Nat}(h:k < n):List.replicate (n-k) (0:Int)=0::List.replicate (n-(k+1)) 0:=by
 rw[show n-k=(n-(k+1))+1 by omega,List.replicate_succ]
theorem dp_args {D:List Int}{n:Nd}{k:Nat}(hk:k < (prts n).length):(((prts n).map fun p=>D.getD p.toNat 0).take (k+1)).foldl max 0=max ((((prts n).map fun p=>D.getD p.toNat 0).take k).foldl max 0) (D.getD ((prts n).getD k 0).toNat 0):=by
 rw[take_snoc 0 (by simpa using hk),List.foldl_append]
 have e:((prts n).map fun p=>D.getD p.toNat 0).getD k 0=D.getD ((prts n).getD k 0).toNat 0:=by
  simp[List.getD_eq_getElem?_getD,List.getElem?_map,List.getElem?_eq_getElem hk]
 rw[e]
 rfl
theorem dpR_snoc (BS:List Int)(A:List Nd)(n:Nd)(D:List Int):dpR BS (A++[n]) D=dpR BS A D++[dpN BS (dpR BS A D) n]:=by
 rw[dpR_app];rfl
theorem wl_take {BS:List Int}{NS:List Nd}{s:Nat}(h:Wl BS s NS)(k:Nat):Wl BS s (NS.take k):=by
 rw[<-List.take_append_drop k NS,wl_app] at h
 exact h.1
def DpP (w:World)(n:Nat)(D:List Int)(e:Ending)(W':World):Prop :=
 ∃ g,e=.returned (.slice (some ⟨g,0,none⟩) n n)/\HasC W' g 3 (inA D)/\Below w.heap.size w W'
theorem depthsOf_any {W:World}{ba da:Option Addr}{bl bc dl dc:Nat}{nv:Value}(hnv:∃ a k c,nv=.slice a k c){root:Int}{BS:List Int}{NS:List Nd}(hB:Iz W ba bl bc BS)(hN:Nz W da dl dc NS)(hw:Wl BS 0 NS)(hd:dl<=1024) :
  Calls Tryz.prog 37 #[.agg (tr4 nv (.slice ba bl bc) (.slice da dl dc) (.int .i64 root))] W (DpP W dl (dpR BS NS [])):=by
 obtain⟨a1,n1,c1,rfl⟩:=hnv
 have hmk:=make_in dl hd
 have hb1:=bel1 W (.cells (tr4 (.slice a1 n1 c1) (.slice ba bl bc) (.slice da dl dc) (.int .i64 root)) 28)
 have hb2:=bel hb1 (bel1 (W.alloc (.cells (tr4 (.slice a1 n1 c1) (.slice ba bl bc) (.slice da dl dc) (.int .i64 root)) 28)) (.cells (inA (List.replicate dl 0)) 3))
 have HT0:=hide ((HasC.new W 28 (tr4 (.slice a1 n1 c1) (.slice ba bl bc) (.slice da dl dc) (.int .i64 root))).alloc (.cells (inA (List.replicate dl 0)) 3))
 have HG0:Hid (HasC ((W.alloc (.cells (tr4 (.slice a1 n1 c1) (.slice ba bl bc) (.slice da dl dc) (.int .i64 root)) 28)).alloc (.cells (inA (List.replicate dl 0)) 3)) (W.heap.size+1) 3 (inA (List.replicate dl 0))):=by
  have:=HasC.new (W.alloc (.cells (tr4 (.slice a1 n1 c1) (.slice ba bl bc) (.slice da dl dc) (.int .i64 root)) 28)) 3 (inA (List.replicate dl 0))
  simp only[World.size_alloc] at this
  exact hide this
 have HB0:=hide hb2
 have HBI:=hide hB
 have HNI:=hide hN
 have HLN:=hide hN.len
 have HLB:=hide hB.len
 have HW:=hide hw
 clear hb1 hb2 hB hN hw
 go_enter Tryz.func37,Tryz.ntmps37
 go_wp2_with fail
 go_loopw [16] (fun i wr=>∃(k:Nat) (D:List Int),k<=dl/\i=.int .i64 k/\Hid (dpR BS (NS.take k) []=D)/\Hid (HasC wr (W.heap.size+1) 3 (inA (D++List.replicate (dl-k) 0)))/\Hid (HasC wr W.heap.size 28 (tr4 (.slice a1 n1 c1) (.slice ba bl bc) (.slice da dl dc) (.int .i64 root)))/\Hid (Below W.heap.size W wr)) (fun i _=>dl-(intOf i).toNat)
 case atStart=>exact⟨0,[],Nat.zero_le _,rfl,hide rfl,HG0,HT0,HB0⟩
 case round =>
  obtain⟨k,D,hk,rfl,HD,HG,HT,HB⟩:=hrel
  rename World=>V
  by_cases hlt:k < dl
  ·obtain⟨g,off,rfl,hat⟩:=(HNI.out.later HB.out).at (by omega)
   obtain⟨e0,e1,e2,e3,e4,e5,e6,e7,e8⟩:=hat k hlt
   clear hat
   have hi0:(0:Int)<=k:=by omega
   have hi1:(k:Int) < dl:=by omega
   have hDl:D.length=k:=by rw[<-HD.out,dpR_len];simp;rw[HLN.out];omega
   have HDb:Hid (Db D):=hide (by rw[<-HD.out];exact Db.all (fun x hx=>by simp at hx) (wl_take HW.out k))
   have HWn:=hide (wl_at HW.out (by rw[HLN.out];exact hlt:k < NS.length))
   rw[Nat.zero_add] at HWn
   have HD2:=hide (dpR_snoc BS (NS.take k) (NS.getD k n0) [])
   rw[<-take_snoc n0 (by rw[HLN.out];exact hlt),HD.out] at HD2
   rw[repI_succ hlt] at HG
   have x1:=HT.out.cell 1 rfl
   have hz0:W.heap.size < V.heap.size:=HT.out.lt
   have hz1:W.heap.size+1 < V.heap.size:=HG.out.lt
   have y0:=HG.out.frozen k
   generalize NS.getD k n0=n at *
   by_cases ho:n.op=4
   ·have ho1:(n.op==4)=true:=by simpa using ho
    obtain⟨u0,u1,u2,u3⟩:=HWn.out.use ho
    have hdpn:dpN BS D n=D.getD (BS.getD n.k.toNat 0).toNat 0:=by unfold dpN;rw[if_pos ho]
    rw[hdpn] at HD2
    obtain⟨kk,hkk⟩:∃ kk:Nat,n.k=(kk:Int):=⟨n.k.toNat,by omega⟩
    rw[hkk] at e4 u1 u2 u3 HD2
    simp only[Int.toNat_natCast] at u1 u2 u3 HD2
    obtain⟨bb,boff,rfl,hbb,hbc⟩:∃ b off,ba=some ⟨b,off,none⟩/\b < V.heap.size/\V.cell? ⟨b,off+kk,none⟩=some (.int .i64 (BS.getD kk 0)):=by
     rcases(HBI.out.later HB.out).cell with h0|⟨b,off,ha,hlb,hc⟩
     ·rw[HLB.out] at u1;omega
     ·exact⟨b,off,ha,hlb,hc kk (by rw[<-HLB.out];exact u1)⟩
    obtain⟨q,hq⟩:∃ q:Nat,BS.getD kk 0=(q:Int):=⟨(BS.getD kk 0).toNat,by omega⟩
    rw[hq] at hbc u3 HD2
    simp only[Int.toNat_natCast] at u3 HD2
    have s0:=inA_get (D++0::List.replicate (dl-(k+1)) 0) q (by simp;omega)
    rw[getI_pre (by rw[hDl];exact u3)] at s0
    have d0:=HG.out.cell q s0
    generalize D.getD q 0=x at *
    have HG2:=hide ((put_in HG.out hDl x).alloc (.cells #[.int .i64 n.op,.int .i64 n.a,.int .i64 n.b,.int .i64 n.c,.int .i64 kk,.int .i64 n.back,.int .i64 n.co,.int .i64 n.x,.int .i64 n.y] 65))
    have HT2:=hide ((HT.out.other (p:=⟨W.heap.size+1,k,none⟩) (by simp) (.int .i64 x)).alloc (.cells #[.int .i64 n.op,.int .i64 n.a,.int .i64 n.b,.int .i64 n.c,.int .i64 kk,.int .i64 n.back,.int .i64 n.co,.int .i64 n.x,.int .i64 n.y] 65))
    have HB2:=hide (bel (HB.out.setCell (p:=⟨W.heap.size+1,k,none⟩) (by simp) (.int .i64 x)) (bel1 _ (.cells #[.int .i64 n.op,.int .i64 n.a,.int .i64 n.b,.int .i64 n.c,.int .i64 kk,.int .i64 n.back,.int .i64 n.co,.int .i64 n.x,.int .i64 n.y] 65)))
    have da:=HG.out.cell k (inA_get _ k (by simp;omega))
    have w0:(kk:Int) < bl:=by have:=HLB.out;omega
    have w1:(q:Int) < dl:=by omega
    have w2:(0:Int)<=kk:=by omega
    have w3:(0:Int)<=q:=by omega
    clear s0 hq u0 u1 u2 u3 hdpn ho HWn hmk HDb
    go_wp2_with fail
    go_roundw
    case rel=>exact⟨k+1,D++[x],by omega,by go_num,hide HD2.out,hide (by rw[List.append_assoc];exact HG2.out),hide HT2.out,hide HB2.out⟩
    case measure=>simp[intOf];omega
   ·have ho1:(n.op==4)=false:=by simpa using ho
    have HW2:=HWn.out
    obtain⟨ar,har⟩:∃ ar:Nat,prZ n.op=ar:=⟨(prZ n.op).toNat,by have:=HW2.pr;omega⟩
    have h3:ar<=3:=by
     have:prZ n.op<=3:=by unfold prZ arZ;repeat' split <;> omega
     omega
    have HPt:=hide fun j hj=>prts_at (n:=n) (j:=j) har h3 hj
    have HPl:=hide (prts_len har h3)
    have HPr:=hide HW2.prt
    have HSg:=hide fun j hj=>dp_args (D:=D) (n:=n) (k:=j) hj
    have hdpn:dpN BS D n=((prts n).map fun p=>D.getD p.toNat 0).foldl max 0+1:=by unfold dpN;rw[if_neg ho]
    have hin:=dpN_in HDb.out (by rw[hDl];exact HW2)
    rw[hdpn] at HD2 hin
    obtain⟨L,hL⟩:∃ L,((prts n).map fun p=>D.getD p.toNat 0)=L:=⟨_,rfl⟩
    have HLl:Hid (L.length=ar):=hide (by rw[<-hL,List.length_map,HPl.out])
    have HLb:Hid (∀ j,0<=(L.take j).foldl max 0/\(L.take j).foldl max 0<=1024):=hide fun j=>⟨le_fold_max _ _,fold_max_le _ _ _ (by omega) fun x hx=>by
     have:=mem_fold_max L 0 x (List.mem_of_mem_take hx)
     rw[<-hL] at this
     omega⟩
    rw[hL] at HSg HD2
    have HPO:=hide (partsOf_any n ar (by rw[HW2.ar ho,har]) h3 (V.alloc (.cells (ndA n) 65)))
    have hl:=bel1 V (.cells (ndA n) 65)
    have HG1:=hide (HG.out.alloc (.cells (ndA n) 65))
    have HT1:=hide (HT.out.alloc (.cells (ndA n) 65))
    have HB1:=hide (bel HB.out hl)
    clear hl hL hdpn har HW2 HWn ho hin HDb hmk
    go_wp2_with fail
    refine HPO.out.mono ?_
    rintro e V1 ⟨gp,rfl,-,hGp,hb⟩
    have HGp:=hide hGp
    have HGa:=hide (HG1.out.below hb)
    have HTa:=hide (HT1.out.below hb)
    have HBa:=hide (bel HB1.out hb)
    have hza:=HGa.out.lt
    have ya:=HGa.out.frozen k
    have da:=HGa.out.cell k (inA_get _ k (by simp;omega))
    clear hb hGp HG1 HT1 HB1 HPO HG HT HB e0 e1 e2 e3 e4 e5 e6 e7 e8 x1 y0
    go_wp2_with fail
    go_loop [6,39] (fun m i=>∃ j:Nat,j<=ar/\i=.int .i64 j/\m=.int .i64 ((L.take j).foldl max 0)) (fun _ i=>ar-(intOf i).toNat)
    case atStart=>exact⟨0,Nat.zero_le _,rfl,rfl⟩
    case round =>
     obtain⟨j,hj,rfl,rfl⟩:=hrel
     by_cases hlj:j < ar
     ·have cp:=HGp.out.cell j (HPt.out j hlj).1
      obtain⟨p0,p1⟩:=HPr.out _ (HPt.out j hlj).2
      have HTt:=hide (HSg.out j (by rw[HPl.out];exact hlj))
      obtain⟨q,hq⟩:∃ q:Nat,(prts n).getD j 0=(q:Int):=⟨((prts n).getD j 0).toNat,by omega⟩
      rw[hq] at cp p1 HTt
      simp only[Int.toNat_natCast] at p1 HTt
      have s0:=inA_get (D++0::List.replicate (dl-(k+1)) 0) q (by simp;omega)
      rw[getI_pre (by rw[hDl];exact p1)] at s0
      have d0:=HGa.out.cell q s0
      generalize D.getD q 0=x at *
      have j0:(0:Int)<=j:=by omega
      have j1:(j:Int) < ar:=by omega
      have i0:(0:Int)<=q:=by omega
      have i1:(q:Int) < dl:=by omega
      clear s0 p0 p1 hq
      generalize (L.take j).foldl max 0=mm at *
      go_wp2_with fail
      go_round
      case rel=>exact⟨j+1,by omega,by go_num,by rw[HTt.out]⟩
      case measure=>simp[intOf];omega
     ·obtain rfl:j=ar:=by omega
      have e:L.take j=L:=List.take_of_length_le (by rw[HLl.out];exact Nat.le_refl _)
      obtain⟨b0,b1⟩:=HLb.out j
      rw[e] at b0 b1 ⊢
      generalize L.foldl max 0=mm at *
      have HG2:=hide (put_in HGa.out hDl (mm+1))
      have HT2:=hide (HTa.out.other (p:=⟨W.heap.size+1,k,none⟩) (by simp) (.int .i64 (mm+1)))
      have HB2:=hide (HBa.out.setCell (p:=⟨W.heap.size+1,k,none⟩) (by simp) (.int .i64 (mm+1)))
      go_wp2_with fail
      go_roundw
      case rel=>exact⟨k+1,D++[mm+1],by omega,by go_num,hide HD2.out,hide (by rw[List.append_assoc];exact HG2.out),hide HT2.out,hide HB2.out⟩
      case measure=>simp[intOf];omega
  ·obtain rfl:k=dl:=by omega
   have e:NS.take k=NS:=List.take_of_length_le (by rw[HLN.out];exact Nat.le_refl _)
   have hZ:=HD.out
   rw[e] at hZ
   have HZ:=hide hZ
   have HG1:=hide HG.out
   rw[Nat.sub_self,List.replicate_zero,List.append_nil] at HG1
   clear hZ
   go_wp2_with fail
   go_ret
   rw[HZ.out]
   exact⟨_,rfl,HG1.out,HB.out⟩
end Go.Proofs.YtngnnijpdjhelaaGreat
namespace Go.Proofs.YtngnnijpdjhelaaGreat
set_option linter.unusedVariables false
set_option maxRecDepth 100000
set_option maxHeartbeats 16000000
def cnt (n:Nat)(l:Array Bool):Nat:=((List.range n).filter fun j=>!l.getD j true).length
theorem cnt_succ (n:Nat)(l:Array Bool):cnt (n+1) l=cnt n l+(if l.getD n true=false then 1 else 0):=by
 unfold cnt
 rw[List.range_succ,List.filter_append,List.length_append]
 congr 1
 cases h:l.getD n true with
 | true=>rw[List.filter_cons_of_neg (by rw[h];decide)];rfl
 | false=>rw[List.filter_cons_of_pos (by rw[h];rfl)];rfl
theorem getD_set (l:Array Bool)(i j:Nat):(l.setIfInBounds i true).getD j true=if j=i then true else l.getD j true:=by
 simp only[Array.getD_eq_getD_getElem?,Array.getElem?_setIfInBounds]
 by_cases h:i=j
 ·subst h
  rw[if_pos rfl,if_pos rfl]
  split <;> rfl
 ·rw[if_neg h,if_neg (fun e=>h e.symm)]
theorem cnt_far (l:Array Bool)(i:Nat):∀ n,n<=i->cnt n (l.setIfInBounds i true)=cnt n l
 | 0,_=>rfl
 | n+1,h=>by
  have hne:¬n=i:=by omega
  rw[cnt_succ,cnt_succ,cnt_far l i n (by omega),getD_set,if_neg hne]
theorem cnt_set (l:Array Bool)(i:Nat)(h:l.getD i true=false):∀ n,i < n->cnt n (l.setIfInBounds i true)+1=cnt n l
 | 0,hn=>by omega
 | n+1,hn=>by
  rw[cnt_succ,cnt_succ,getD_set]
  by_cases e:i=n
  ·subst e
   rw[cnt_far l i i (Nat.le_refl _),if_pos rfl,if_pos h]
   rfl
  ·have:=cnt_set l i h n (by omega)
   have hne:¬n=i:=fun e'=>e e'.symm
   rw[if_neg hne]
   omega
theorem cnt_zero {n:Nat}{l:Array Bool}(h:cnt n l=0):∀ j,j < n->l.getD j true=true:=by
 intro j hj
 unfold cnt at h
 have h2:=List.length_eq_zero_iff.1 h
 rw[List.filter_eq_nil_iff] at h2
 have:=h2 j (List.mem_range.2 hj)
 simpa using this
theorem cnt_start (n:Nat):cnt n (Array.replicate n false)<=n:=by
 unfold cnt
 refine Nat.le_trans (List.length_filter_le _ _) ?_
 simp
theorem ready_mem {md:Region.Mode}{ops:Array Oper}{listed:Array Bool}{i:Nat}(h:i ∈ Region.ready md ops listed):i < ops.size/\listed.getD i true=false/\∃ o,ops[i]?=some o/\∀ e ∈ o.after,Region.binds md e=true->listed.getD e.on false=true:=by
 unfold Region.ready at h
 rw[List.mem_filter,List.mem_range] at h
 obtain⟨h1,h2⟩:=h
 rw[Bool.and_eq_true] at h2
 refine⟨h1,by simpa using h2.1,?_⟩
 cases ho:ops[i]? with
 | none=>rw[ho] at h2;simp at h2
 | some o =>
  refine⟨o,rfl,?_⟩
  rw[ho] at h2
  have h3:=h2.2
  simp only[Option.map_some,Option.getD_some,Array.all_eq_true] at h3
  intro e he hb
  obtain⟨k,hk,rfl⟩:=Array.mem_iff_getElem.1 he
  have:=h3 k hk
  rw[hb] at this
  simpa using this
theorem wp_region_inv {P:Program}{ops:Array Oper}{Q:Exit->Act->World->Prop}{id:Nat}{a:Act}{w:World}(hm:P.follows .mixedOrders=true)(I:Array Bool->Act->World->Prop)
  (h0:I (Array.replicate ops.size false) a { w with drawn:=w.drawn+1 })
  (hs:∀ listed a w i,I listed a w->i ∈ Region.ready .any ops listed->wpOp P ops Q i (I (listed.setIfInBounds i true)) a w)
  (he:∀ listed a w,I listed a w->Region.ready .any ops listed=[]->Q .normal a w):(Code.region id ops true).wp P Q a w:=by
 refine wp_region_any hm ?_
 have key:∀(fuel:Nat) (listed:Array Bool) (a:Act) (w:World),cnt ops.size listed<=fuel->I listed a w->wpAny P .any ops Q fuel listed a w:=by
  intro fuel
  induction fuel with
  | zero =>
   intro listed a w hc hI
   have hr:Region.ready .any ops listed=[]:=by
    rw[List.eq_nil_iff_forall_not_mem]
    intro i hi
    obtain⟨h1,h2,-⟩:=ready_mem hi
    have:=cnt_zero (show cnt ops.size listed=0 by omega) i h1
    rw[this] at h2
    cases h2
   exact⟨hr,he listed a w hI hr⟩
  | succ fuel ih =>
   intro listed a w hc hI
   refine⟨fun hr=>he listed a w hI hr,fun i hi=>?_⟩
   obtain⟨h1,h2,-⟩:=ready_mem hi
   have:=cnt_set listed i h2 ops.size h1
   exact wpOp_mono (fun a' w' h'=>ih _ a' w' (by omega) h') (hs listed a w i hI hi)
 exact key _ _ _ _ (cnt_start _) h0
end Go.Proofs.YtngnnijpdjhelaaGreat
namespace Go.Proofs.YtngnnijpdjhelaaGreat
set_option linter.unusedVariables false
theorem wpOp_list {P:Program}{ops:Array Oper}{Q:Exit->Act->World->Prop}{i:Nat}{o:Oper}{K:Act->World->Prop}{a:Act}{w:World}(ho:ops[i]?=some o)
  (h:∀ Q':Exit->Act->World->Prop,(∀ a w,K a w->Q' .normal a w)->(∀ e a w,e≠.normal->Q e a w->Q' e a w)->wpList P ops Q' [o] a w):wpOp P ops Q i K a w:=by
 have h1:=h (fun e a w=>(e=.normal/\K a w)\/(e≠.normal/\Q e a w)) (fun a w hk=>.inl ⟨rfl,hk⟩) (fun e a w he hq=>.inr ⟨he,hq⟩)
 unfold wpOp
 rw[ho]
 unfold wpList at h1
 have hn:∀ a w,wpList P ops (fun e a w=>(e=.normal/\K a w)\/(e≠.normal/\Q e a w)) [] a w->K a w:=by
  intro a w hh
  rcases hh with⟨-,hk⟩|⟨hne,-⟩
  ·exact hk
  ·exact absurd rfl hne
 have hl:LetsOut (fun e a w=>(e=.normal/\K a w)\/(e≠.normal/\Q e a w))->LetsOut Q:=by
  rintro⟨a,w,hh⟩
  rcases hh with⟨he,-⟩|⟨-,hq⟩
  ·cases he
  ·exact⟨a,w,hq⟩
 show if _ then _ else _
 split
 ·rename_i hw
  rw[if_pos hw] at h1
  rcases h1 with h1|⟨h1,h2⟩
  ·refine .inl ?_
   unfold Oper.wp at *
   generalize (execOp a.eval o).run P w=r at *
   cases r with
   | ok n w' =>
    cases n with
    | value v=>exact hn _ _ h1
    | skip=>exact hn _ _ h1
    | defer d=>exact hn _ _ h1
    | enter f args =>
     refine Calls.mono h1 fun e w'' he=>?_
     cases e with
     | returned v=>exact hn _ _ he
     | panicked c =>
      rcases he with⟨he,-⟩|⟨-,hq⟩
      ·cases he
      ·exact hq
     | outgrown=>exact hl he
    | row r args=>exact Rows.mono h1 fun _ _ he=>hn _ _ he
    | _=>exact h1
   | halt x w' =>
    cases x with
    | panic v =>
     rcases h1 with⟨he,-⟩|⟨-,hq⟩
     ·cases he
     ·exact hq
    | _=>exact h1
  ·exact .inr ⟨h1,hl h2⟩
 ·rename_i hw
  rw[if_neg hw] at h1
  exact hn _ _ h1
theorem wp_region_flags {P:Program}{ops:Array Oper}{Q:Exit->Act->World->Prop}{id:Nat}{a:Act}{w:World}(hm:P.follows .mixedOrders=true)
  (hord:∀(i:Nat) (o:Oper),ops[i]?=some o->∀ e ∈ o.after,e.on < i) (I:(Nat->Bool)->Act->World->Prop)
  (h0:I (fun _=>false) a { w with drawn:=w.drawn+1 })
  (hs:∀ d a w i o,I d a w->d i=false->ops[i]?=some o->(∀ e ∈ o.after,Region.binds .any e=true->d e.on=true)->∀ Q':Exit->Act->World->Prop,(∀ a w,I (fun j=>j==i || d j) a w->Q' .normal a w)->wpList P ops Q' [o] a w)
  (he:∀ d a w,I d a w->(∀ i,i < ops.size->d i=true)->Q .normal a w):(Code.region id ops true).wp P Q a w:=by
 refine wp_region_inv hm (fun listed a w=>listed.size=ops.size/\I (fun j=>listed.getD j false) a w) ⟨by simp,?_⟩ ?_ ?_
 ·have:(fun j=>(Array.replicate ops.size false).getD j false)=fun _=>false:=by
   funext j
   simp only[Array.getD_eq_getD_getElem?,Array.getElem?_replicate]
   split <;> rfl
  rw[this]
  exact h0
 ·rintro listed a w i ⟨hsz,hI⟩ hi
  obtain⟨h1,h2,o,ho,h3⟩:=ready_mem hi
  refine wpOp_list ho fun Q' hk _=>?_
  refine hs _ a w i o hI ?_ ho h3 Q' fun a w hI'=>hk a w ⟨by simp[hsz],?_⟩
  ·have hlt:i < listed.size:=by omega
   simpa [Array.getD_eq_getD_getElem?,hlt] using h2
  ·have:(fun j=>(listed.setIfInBounds i true).getD j false)=fun j=>j==i || listed.getD j false:=by
    funext j
    simp only[Array.getD_eq_getD_getElem?,Array.getElem?_setIfInBounds]
    by_cases hj:i=j
    ·subst hj
     have hlt:i < listed.size:=by omega
     simp[hlt]
    ·have:(j==i)=false:=by simpa using fun e=>hj e.symm
     rw[if_neg hj,this]
     simp
   rw[this]
   exact hI'
 ·rintro listed a w ⟨hsz,hI⟩ hr
  refine he _ a w hI ?_
  intro i
  induction i using Nat.strongRecOn with
  | _ i ih =>
   intro hi
   cases hd:listed.getD i false with
   | true=>rfl
   | false =>
    exfalso
    have hm':i ∈ Region.ready .any ops listed:=by
     unfold Region.ready
     rw[List.mem_filter,List.mem_range]
     refine⟨hi,?_⟩
     have hlt:i < listed.size:=by omega
     have e1:listed.getD i true=false:=by
      simpa [Array.getD_eq_getD_getElem?,hlt] using hd
     rw[e1]
     obtain⟨o,ho⟩:∃ o,ops[i]?=some o:=⟨ops[i],Array.getElem?_eq_getElem hi⟩
     rw[ho]
     simp only[Option.map_some,Option.getD_some,Bool.not_false,Bool.true_and,Array.all_eq_true]
     intro k hk
     have hlt2:=hord i o ho o.after[k] (Array.getElem_mem hk)
     have:=ih o.after[k].on hlt2 (by omega)
     rw[this]
     simp
    rw[hr] at hm'
    cases hm'
theorem ord_of {ops:Array Oper}(h:(ops.toList.zipIdx.all fun x=>x.1.after.all fun e=>decide (e.on < x.2))=true):∀(i:Nat) (o:Oper),ops[i]?=some o->∀ e ∈ o.after,e.on < i:=by
 intro i o ho e he
 rw[List.all_eq_true] at h
 have h1:=h (o,i) (by
  rw[List.mem_zipIdx_iff_getElem?]
  simpa using ho)
 rw[Array.all_eq_true] at h1
 obtain⟨k,hk,rfl⟩:=Array.mem_iff_getElem.1 he
 simpa using h1 k hk
end Go.Proofs.YtngnnijpdjhelaaGreat
