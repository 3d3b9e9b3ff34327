import Derived.Deep.AppendLies
import Derived.ArgAppend
import Derived.Deep.LoopGhost
import Derived.WalkMore
import Derived.Deep.QuietTactic
import Derived.BigQuiet
import Derived.Test.YtngnnijpdjhelaaGreatX22
namespace Go.Proofs.YtngnnijpdjhelaaGreat
open Go.RowKit Go.IntWalk Lx
set_option linter.unusedVariables false
set_option maxRecDepth 100000
set_option maxHeartbeats 16000000
theorem infoT:(Tryz.prog.info? 109).map (fun i=>(i.zero,i.size,i.bytes))=some (some (.agg #[.int .i64 0,.string ⟨#[]⟩,.int .i64 0]),3,32):=by kernel_rfl
abbrev sB (l:List UInt8):ByteArray:=⟨l.toArray⟩
theorem sB_bs (s:ByteArray):sB (bs s)=s:=by cases s;rfl
theorem bs_sB (l:List UInt8):bs (sB l)=l:=rfl
def tk64 (T:List Tok):List Value:=T.flatMap fun t=>[.int .i64 t.kind,.string (sB t.text),.int .i64 (t.pos:Int)]
theorem tk64_len (T:List Tok):(tk64 T).length=T.length*3:=by
 induction T with
 | nil=>rfl
 | cons p L ih=>simp[tk64] at *;omega
theorem tk64_snoc (T:List Tok)(t:Tok):tk64 (T++[t])=tk64 T++[.int .i64 t.kind,.string (sB t.text),.int .i64 (t.pos:Int)]:=by simp[tk64]
def t0:Tok:=⟨0,[],0⟩
theorem tk64_get:∀(T:List Tok) (i:Nat),i < T.length->(tk64 T)[i*3]?=some (.int .i64 (T.getD i t0).kind)/\(tk64 T)[i*3+1]?=some (.string (sB (T.getD i t0).text))/\(tk64 T)[i*3+2]?=some (.int .i64 ((T.getD i t0).pos:Int))
 | [],i,h=>by simp at h
 | p::L,0,h=>by simp[tk64]
 | p::L,i+1,h=>by
  have h':=tk64_get L i (by simpa using h)
  have e:tk64 (p::L)=.int .i64 p.kind::.string (sB p.text)::.int .i64 (p.pos:Int)::tk64 L:=by simp[tk64]
  rw[e,show (i+1)*3=i*3+1+1+1 by omega,show i*3+1+1+1+1=(i*3+1)+1+1+1 by omega,show i*3+1+1+1+2=(i*3+2)+1+1+1 by omega]
  simp only[List.getElem?_cons_succ]
  simpa using h'
structure Toks (w:World)(a:Option Addr)(n cap:Nat)(T:List Tok):Prop where
 len:T.length=n
 le:n<=cap
 max:cap<=maxLen
 nil:a=none->cap=0
 cell:n=0\/∃ b off,a=some ⟨b,off,none⟩/\∀ i,i < n->w.cell? ⟨b,off+i*3,none⟩=some (.int .i64 (T.getD i t0).kind)/\w.cell? ⟨b,off+i*3+1,none⟩=some (.string (sB (T.getD i t0).text))/\w.cell? ⟨b,off+i*3+2,none⟩=some (.int .i64 ((T.getD i t0).pos:Int))
structure Es (w W:World)(v:Value)(n:Nat)(T:List Tok):Prop where
 a:W.ownsRow w.heap.size 109 3 v n (tk64 T)
 bel:Below w.heap.size w W
theorem Es.alloc {w W:World}{v:Value}{n:Nat}{T:List Tok}(h:Es w W v n T)(o:Obj):Es w (W.alloc o) v n T:=⟨h.a.alloc o,h.bel.alloc h.bel.size o⟩
theorem Es.start (W:World):Es W W (.slice none 0 0) 0 []:=⟨⟨rfl,.inl ⟨rfl,rfl⟩⟩,Below.refl _ _⟩
theorem Es.len {w W:World}{v:Value}{n:Nat}{T:List Tok}(h:Es w W v n T):T.length=n:=by
 have:=h.a.1
 rw[tk64_len] at this
 omega
theorem Es.later {w W W':World}{v:Value}{n:Nat}{T:List Tok}(h:Es w W v n T)(hb:Below W.heap.size W W'):Es w W' v n T:=by
 have hg:W.grownBy W' none:=⟨hb.os,hb.tape,hb.output,hb.size,fun k hk _=>hb.block k hk⟩
 refine⟨h.a.kept hg ?_,h.bel.trans (hb.mono h.bel.size)⟩
 cases hv:v.ownBlock with
 | none=>exact .inl rfl
 | some q=>exact .inr (by simp)
theorem Toks.of_owns {w:World}{base:Nat}{v:Value}{n:Nat}{T:List Tok}(h:w.ownsRow base 109 3 v n (tk64 T)):∃ a cap,v=.slice a n cap/\Toks w a n cap T/\(∀ x,a=some x->base<=x.block/\x.block < w.heap.size):=by
 have hl:T.length=n:=by
  have:=h.1
  rw[tk64_len] at this
  omega
 have hlt:=h.lt
 have hcs:=fun g hg=>h.cells (g:=g) hg
 rcases h.2 with⟨rfl,rfl⟩|⟨g,cap,cur,rfl,hb,hg,hnc,hcm,hsz,htake⟩
 ·exact⟨none,0,rfl,⟨hl,Nat.le_refl _,Nat.zero_le _,fun _=>rfl,.inl rfl⟩,fun x hx=>by cases hx⟩
 ·refine⟨some ⟨g,0,none⟩,cap,rfl,⟨hl,hnc,hcm,(fun h=>by cases h),.inr ⟨g,0,rfl,fun i hi=>?_⟩⟩,fun x hx=>by cases hx;exact hlt g rfl⟩
  obtain⟨e1,e2,e3⟩:=tk64_get T i (by omega)
  have h1:=hcs g rfl _ _ e1
  have h2:=hcs g rfl _ _ e2
  have h3:=hcs g rfl _ _ e3
  rw[Addr.add_lit] at h1 h2 h3
  exact⟨h1,by rw[Nat.add_assoc];exact h2,by rw[Nat.add_assoc];exact h3⟩
theorem news_tok {W:World}{b:Nat}{k p:Int}{s:ByteArray}(h:HasC W b 109 (tc k s p)):∀ j u,[Value.int .i64 k,.string s,.int .i64 p][j]?=some u->W.cell? ((⟨b,0,none⟩:Addr).add j)=some u:=by
 intro j u hu
 rw[Addr.add_lit]
 match j,hu with
 | 0,hu=>simp at hu;subst hu;exact h.cell 0 rfl
 | 1,hu=>simp at hu;subst hu;exact h.cell 1 rfl
 | 2,hu=>simp at hu;subst hu;exact h.cell 2 rfl
 | _+3,hu=>simp at hu
theorem list_tok {w W:World}{v:Value}{n:Nat}{T:List Tok}{ops:Array Oper}{rest:List Oper}{o:Oper}{a:Act}{Q:Exit->Act->World->Prop}
  (hgd:o.guard=none) (s x:Operand) (ho:o.op=.call { callee:=.builtin .append,args:=#[s,x],argTypes:=#[77,77] })
  (hs:a.eval s=v) (hen:Es w W v n T) (b:Nat) (t:Tok) (hx:a.eval x=.slice (some ⟨b,0,none⟩) 1 1) (hc:HasC W b 109 (tc t.kind (sB t.text) t.pos)) (h3:n<=2000000)
  (h:∀ g cap w',Es w w' (.slice (some ⟨g,0,none⟩) (n+1) cap) (n+1) (T++[t])->W.heap.size<=w'.heap.size->wpList Tryz.prog ops Q rest (a.put o.dst (.slice (some ⟨g,0,none⟩) (n+1) cap)) w') :
  wpList Tryz.prog ops Q (o::rest) a W:=by
 obtain⟨i0,hi0,hz0,hz1,hz2⟩:=info_parts infoT
 refine wpList_append_lies W hgd s x 77 ho w.heap.size 109 i0 _ 3 32 Tryz.underlying77 hi0 hz0 hz1 hz2 rfl (by omega) v n (tk64 T) hs hen.a ⟨b,0,none⟩ 1 1 [.int .i64 t.kind,.string (sB t.text),.int .i64 (t.pos:Int)] hx rfl (news_tok hc) (by simp[Value.oneCell']) (by omega) (by unfold maxLen;omega) (by omega) hen.bel.size W.heap.size rfl ?_
 intro g cap w' hown hgrow hat hlt
 exact h g cap w' ⟨by rw[tk64_snoc];exact hown,hen.bel.grown hgrow hen.bel.size (fun k hk=>(hen.a.lt k hk).1)⟩ hgrow.size
def TP (w:World)(l:List UInt8)(e:Ending)(w':World):Prop :=
 (tks l=none/\e=.returned (.tuple #[.slice none 0 0,.int .i64 10])/\Below w.heap.size w w') \/
 (∃ T v,tks l=some T/\e=.returned (.tuple #[v,.int .i64 0])/\w'.ownsRow w.heap.size 109 3 v T.length (tk64 T)/\Below w.heap.size w w')
theorem ne_of_nat {c:UInt8}{n:Nat}(h:((c.toNat:Int)==(n:Int))=false)(m:UInt8)(hm:m.toNat=n):c≠m:=by
 intro e
 subst e
 rw[hm] at h
 simp at h
theorem eq_of_nat {c:UInt8}{n:Nat}(h:((c.toNat:Int)==(n:Int))=true)(m:UInt8)(hm:m.toNat=n):c=m:=by
 simp only[beq_iff_eq] at h
 exact UInt8.toNat_inj.1 (by omega)
theorem text_at (s:ByteArray)(k n:Nat):(s.extract k s.size).extract 0 n=sB (((bs s).drop k).take n):=by
 rw[<-sB_bs ((s.extract k s.size).extract 0 n),bs_to,bs_from]
theorem nl_of {c:UInt8}(h:((c.toNat:Int)==10)=false):nl c=true:=by
 have:=ne_of_nat (n:=10) h 10 rfl
 simp[nl,this]
theorem tokens_any (s:ByteArray)(w:World):Calls Tryz.prog 30 #[.string s] w fun e w'=>TP w (bs s) e w':=by
 by_cases hbig:1024 < s.size
 ·have hn:tks (bs s)=none:=by unfold tks;rw[bs_len,if_pos hbig]
  have hn':=hide hn
  clear hn
  go_enter Tryz.func30,Tryz.ntmps30
  go_wp2
  go_step3
  go_wp2
  try rw[Exit.noGoto_ret]
  go_ret2
  exact .inl ⟨hn'.out,rfl,Below.refl _ _⟩
 ·have hs:s.size<=1024:=by omega
  have htk:=hide (show tks (bs s)=sc (bs s) 0 by unfold tks;rw[bs_len,if_neg hbig])
  clear hbig
  go_enter Tryz.func30,Tryz.ntmps30
  go_wp2
  go_step3
  go_wp2
  go_step3
  go_wp2
  go_loopg [4,5] s.size (fun g v i W=>∃ k n:Nat,∃ T:List Tok,k+g=s.size/\n<=k/\i=.int .i64 k/\Hid (Es w W v n T)/\Hid (Inv (bs s) k T))
  case atStart=>exact⟨0,0,[],by omega,Nat.le_refl _,rfl,hide (Es.start w),hide (Inv.start _)⟩
  case round =>
   obtain⟨k,n,T,hk,hnk,rfl,HE,HI⟩:=hrel
   by_cases hlt:k < s.size
   ·have hc:=hide (bs_at hlt)
    by_cases hb:bl s[k]=true
    ·have HI2:=hide (HI.out.blank hc.out hb)
     have hw:((s[k].toNat:Int)==32)=true\/(((s[k].toNat:Int)==32)=false/\((s[k].toNat:Int)==9)=true)\/(((s[k].toNat:Int)==32)=false/\((s[k].toNat:Int)==9)=false/\((s[k].toNat:Int)==10)=true):=by
      simp only[bl,Bool.or_eq_true,beq_iff_eq] at hb
      rcases hb with(h|h)|h <;> rw[h] <;> simp
     clear hb
     rcases hw with h1|⟨h1,h2⟩|⟨h1,h2,h3⟩
     all_goals
      go_wp2
      go_roundg (gk-1)
      case measure=>omega
      case rel=>exact⟨k+1,n,T,by omega,by omega,by go_num,HE,HI2⟩
    ·have hb':bl s[k]=false:=by simpa using hb
     have h1:((s[k].toNat:Int)==32)=false:=by
      cases h:((s[k].toNat:Int)==32)
      ·rfl
      ·rw[eq_of_nat (n:=32) h 32 rfl] at hb';exact absurd hb' (by decide)
     have h2:((s[k].toNat:Int)==9)=false:=by
      cases h:((s[k].toNat:Int)==9)
      ·rfl
      ·rw[eq_of_nat (n:=9) h 9 rfl] at hb';exact absurd hb' (by decide)
     have h3:((s[k].toNat:Int)==10)=false:=by
      cases h:((s[k].toNat:Int)==10)
      ·rfl
      ·rw[eq_of_nat (n:=10) h 10 rfl] at hb';exact absurd hb' (by decide)
     have HB':=hide hb'
     clear hb hb'
     cases h4:((s[k].toNat:Int)==35) with
     | true =>
      have H35:=hide (show (bs s)[k]?=some 35 by rw[hc.out,eq_of_nat (n:=35) h4 35 rfl])
      go_wp2
      go_loopg [5] (s.size-k) (fun g2 i wy=>∃ j:Nat,j+g2=s.size/\k<=j/\i=.int .i64 j/\Hid ((((bs s).drop k).take (j-k)).all nl=true)/\wy=wr)
      case atStart=>exact⟨k,by omega,Nat.le_refl _,rfl,hide (by simp),rfl⟩
      case round =>
       obtain⟨j,hj,hkj,rfl,HA,rfl⟩:=hrel
       by_cases hjl:j < s.size
       ·have hcj:=hide (bs_at hjl)
        cases h10:((s[j].toNat:Int)==10) with
        | true =>
         have hne:k < j:=by
          rcases Nat.lt_or_ge k j with h|h
          ·exact h
          ·obtain rfl:j=k:=by omega
           rw[h10] at h3;cases h3
         have HI2:=hide (HI.out.rem H35.out hne (by rw[bs_len];omega) HA.out (by intro c h;rw[hcj.out] at h;cases h;exact eq_of_nat (n:=10) h10 10 rfl))
         go_wp2
         go_roundg (s.size-j)
         case measure=>omega
         case rel=>exact⟨j,n,T,by omega,by omega,rfl,HE,HI2⟩
        | false =>
         have HA2:=hide (all_snoc (l:=(bs s).drop k) (k:=j-k) (c:=s[j]) HA.out (by rw[List.getElem?_drop,show k+(j-k)=j by omega];exact hcj.out) (nl_of h10))
         rw[show j-k+1=j+1-k by omega] at HA2
         go_wp2
         go_roundg (s.size-(j+1))
         case measure=>omega
         case rel=>exact⟨j+1,by omega,by omega,by go_num,HA2,rfl⟩
       ·have HI2:=hide (HI.out.rem H35.out (j:=j) (by omega) (by rw[bs_len];omega) HA.out (by intro c h;rw[List.getElem?_eq_none (by rw[bs_len];omega)] at h;cases h))
        go_wp2
        try rw[Exit.noGoto_ret]
        go_ret2
        have hT:=HI2.out.ends (by rw[bs_len];omega)
        have hE:=HE.out
        exact .inr ⟨T,_,htk.out.trans hT,rfl,by rw[hE.len];exact hE.a,hE.bel⟩
     | false =>
      have h35:=hide (ne_of_nat (n:=35) h4 35 rfl)
      have HG:=fun w=>begun_any (s.extract k s.size) w (by simp;omega) (by simp;omega)
      simp only[text_at,bs_from] at HG
      have hzl:sz ((bs s).drop k)<=s.size-k:=by
       have:=sz_le (l:=(bs s).drop k) (by rw[drop_cons hc.out];simp)
       rw[List.length_drop,bs_len] at this
       exact this
      cases hg:gd ((bs s).drop k) with
      | false =>
       have hN:=hide (HI.out.bad hc.out HB'.out h35.out hg)
       rw[hg] at HG
       have HG':=hide HG
       clear HG hg
       go_wp2_with fail
       refine(HG'.out _).mono ?_
       rintro e w1 ⟨rfl,hb1⟩
       have HBl:=hide (bel HE.out.bel (bel hb1 (bel1 w1 (.cells (tc (kd ((bs s).drop k)) (sB (((bs s).drop k).take (sz ((bs s).drop k)))) 0) 109))))
       clear hb1
       go_wp2_with fail
       try rw[Exit.noGoto_ret]
       go_ret2
       exact .inl ⟨htk.out.trans hN.out,rfl,HBl.out⟩
      | true =>
       have hpos:=gd_pos hg
       have HI2:=hide (HI.out.tok hc.out HB'.out h35.out hg)
       have hXl:(((bs s).drop k).take (sz ((bs s).drop k))).length=sz ((bs s).drop k):=by rw[List.length_take,List.length_drop,bs_len];omega
       rw[hg] at HG
       obtain⟨K,hK⟩:∃ K,kd ((bs s).drop k)=K:=⟨_,rfl⟩
       obtain⟨X,hX⟩:∃ X,((bs s).drop k).take (sz ((bs s).drop k))=X:=⟨_,rfl⟩
       rw[hX] at hXl
       rw[hK,hX,<-hXl] at HI2
       rw[hK,hX] at HG
       rw[<-hXl] at hpos hzl
       have HG':=hide HG
       clear HG hg hK hX hXl
       have hsz:(sB X).size=X.length:=by simp[ByteArray.size]
       go_wp2_with fail
       refine(HG'.out _).mono ?_
       rintro e w1 ⟨rfl,hb1⟩
       have HE1:=hide (HE.out.later hb1)
       have HN:=hide (HasC.new (w1.alloc (.cells (tc K (sB X) k) 109)) 109 (tc K (sB X) k))
       simp only[World.size_alloc] at HN
       clear hb1 HE
       go_wp2_with (at_builtin;refine list_tok rfl _ _ rfl rfl ((HE1.out.alloc _).alloc _) (w1.heap.size+1) ⟨K,X,k⟩ rfl HN.out (by omega) ?_;intro g cap w2 hE2 hsz2)
       go_roundg (s.size-(k+X.length))
       case measure=>omega
       case rel=>exact⟨k+X.length,n+1,_,by omega,by omega,by go_num,hide hE2,HI2⟩
   ·go_wp2
    try rw[Exit.noGoto_ret]
    go_ret2
    have hT:=HI.out.ends (by rw[bs_len];omega)
    have hE:=HE.out
    exact .inr ⟨T,_,htk.out.trans hT,rfl,by rw[hE.len];exact hE.a,hE.bel⟩
theorem below_drewN (w:World)(q:Nat):Below w.heap.size w (w.drewN q):=⟨rfl,rfl,rfl,Nat.le_refl _,fun _ _=>rfl⟩
theorem Toks.at {w:World}{a:Option Addr}{n cap:Nat}{T:List Tok}(h:Toks w a n cap T)(hn:n≠0) :
  ∃ b off,a=some ⟨b,off,none⟩/\b < w.heap.size/\∀ i,i < n->w.cell? ⟨b,off+i*3,none⟩=some (.int .i64 (T.getD i t0).kind)/\w.cell? ⟨b,off+i*3+1,none⟩=some (.string (sB (T.getD i t0).text))/\w.cell? ⟨b,off+i*3+2,none⟩=some (.int .i64 ((T.getD i t0).pos:Int)):=by
 rcases h.cell with h0|⟨b,off,ha,hc⟩
 ·exact absurd h0 hn
 ·exact⟨b,off,ha,World.block_lt_of_cell? w _ (hc 0 (by omega)).1,hc⟩
theorem Toks.of_cells {w w':World}{a:Option Addr}{n cap:Nat}{T:List Tok}(h:Toks w a n cap T)
  (hc:∀ b off,a=some ⟨b,off,none⟩->n≠0->∀ i,w'.cell? ⟨b,i,none⟩=w.cell? ⟨b,i,none⟩):Toks w' a n cap T:=by
 refine⟨h.len,h.le,h.max,h.nil,?_⟩
 by_cases hn:n=0
 ·exact .inl hn
 ·obtain⟨b,off,ha,_,hcell⟩:=h.at hn
  refine .inr ⟨b,off,ha,fun i hi=>?_⟩
  obtain⟨c1,c2,c3⟩:=hcell i hi
  exact⟨(hc b off ha hn _).trans c1,(hc b off ha hn _).trans c2,(hc b off ha hn _).trans c3⟩
end Go.Proofs.YtngnnijpdjhelaaGreat
