import Derived.Test.YtngnnijpdjhelaaGreatX41
namespace Go.Proofs.YtngnnijpdjhelaaGreat
open Go.RowKit Go.IntWalk Lx Pz
set_option linter.unusedVariables false
set_option maxRecDepth 100000
set_option maxHeartbeats 16000000
def lwT:Txt:=[108,101,116,32,97,61,104,105,59,97,42,97]
def wA:Txt:=[97]
def wHi:Txt:=[104,105]
def lwK:List Tk:=.word wLet::.word wA::.eq::([.word wHi]++.semi::([.word wA]++.op 6 10::[.word wA]))
abbrev lwI:E:=.leaf (lf 2 4 0 0 0 0)
abbrev lwE:E:=.bin 10 (.leaf (lf 4 0 0 0 0 0)) (.leaf (lf 4 0 0 0 0 0))
theorem lw_ak:ak lwT=some lwK:=by
 have h1:∀ r,ak (108::101::116::32::r)=(ak (32::r)).map ([.word wLet]++·):=fun r=>ak_wrd (x:=wLet) (by decide) (32::r) (fo_cons (by decide) r)
 have h2:∀ r,ak (97::61::r)=(ak (61::r)).map ([.word wA]++·):=fun r=>ak_wrd (x:=wA) (by decide) (61::r) (fo_cons (by decide) r)
 have h3:∀ r,ak (61::104::r)=(ak (104::r)).map ([.eq]++·):=fun r=>ak_eq (104::r) (fun d hd=>by simp at hd;subst hd;decide)
 have h4:∀ r,ak (104::105::59::r)=(ak (59::r)).map ([.word wHi]++·):=fun r=>ak_wrd (x:=wHi) (by decide) (59::r) (fo_cons (by decide) r)
 have h5:∀ r,ak (59::r)=(ak r).map ([.semi]++·):=fun r=>ak_semi r trivial
 have h6:∀ r,ak (97::42::r)=(ak (42::r)).map ([.word wA]++·):=fun r=>ak_wrd (x:=wA) (by decide) (42::r) (fo_cons (by decide) r)
 have h7:∀ r,ak (42::r)=(ak r).map ([.op 6 10]++·):=fun r=>ak_m 42 _ (by decide) (by decide) (by decide) (by decide) (by decide) (by decide) r trivial
 have h8:ak [97]=(ak []).map ([.word wA]++·):=ak_wrd (x:=wA) (by decide) [] fo_nil
 unfold lwT
 rw[h1,ak_blank (by decide),h2,h3,h4,h5,h6,h7,h8,ak_nil]
 rfl
theorem lw_gp:GP [] [] lwK ([wA],[lwI],lwE):=by
 have a8:G [wA] 8 [.word wA] (.leaf (lf 4 0 0 0 0 0)):=G.word (by decide) (by decide) (by decide) (by rfl)
 refine GP.bind (by decide) rfl (G.ups (G.word (by decide) (by decide) (by decide) (by rfl)) (by decide) (by decide)) (GP.last (G.ups (G.bin (k:=6) (o:=10) (by omega) (G.ups a8 (by decide) (by decide)) (G.ups a8 (by decide) (by decide))) (by decide) (by decide)))
theorem lw_ck:ckE 0 8 [wA] (bdL [lwI] 0) (nodesOf [lwI] lwE) (rootOf [lwI] lwE)=0:=by decide +kernel
theorem lw_lo:loF 0 8 (bdL [lwI] 0) (nodesOf [lwI] lwE)=([0,0,0,1],[⟨2,0,0,0,4,0⟩,⟨10,0,0,0,0,0⟩]):=by decide +kernel
theorem lw_v:loV 0 8 [wA] (bdL [lwI] 0) (nodesOf [lwI] lwE) (rootOf [lwI] lwE)=⟨0,0,8,[⟨2,0,0,0,4,0⟩,⟨10,0,0,0,0,0⟩],1⟩:=by
 unfold loV
 rw[if_pos lw_ck,lw_lo]
 rfl
theorem LoP.ins {w:World}{Z:LoV}{e:Ending}{W':World}(h:LoP w Z e W'):∃ a c,e=.returned (.tuple #[.agg (Cde.cd Z.f Z.d a Z.I.length c Z.o),.int .i64 Z.er])/\Cde.Ins W' a Z.I.length c Z.I/\Below w.heap.size w W':=by
 obtain⟨a,c,rfl,hO,hb⟩:=h
 obtain⟨a',c',e1,hI,-⟩:=Cde.Ins.of_owns hO
 cases e1
 exact⟨a,c,rfl,hI,hb⟩
theorem lawake_any (W:World):Calls Tryz.prog 10 #[] W fun e w'=>e=.returned (.bool true)/\Below W.heap.size W w':=by
 have HP:=hide (parse_dec (s:=sB lwT) (by rw[bs_sB];exact lw_ak) (by decide) lw_gp W)
 have HL:=hide fun(V:World) na nl nc ba bl bc da dl dc hX hB hN hs=>olower_any 0 8 (W:=V) (na:=na) (nl:=nl) (nc:=nc) (ba:=ba) (bl:=bl) (bc:=bc) (da:=da) (dl:=dl) (dc:=dc) (root:=rootOf [lwI] lwE) (NM:=[wA]) (BS:=bdL [lwI] 0) (NS:=nodesOf [lwI] lwE) hX hB hN hs
 rw[lw_v] at HL
 go_enter Tryz.func10,Tryz.ntmps10
 go_wp2_with fail
 refine HP.out.mono ?_
 rintro e V1 ⟨na,nc,ba,bc,da,dc,hD,rfl,hX,hI,hN,hb⟩
 have hb2:=bel1 V1 (.cells (tr4 (.slice na [lwI].length nc) (.slice ba [lwI].length bc) (.slice da (szL [lwI]+lwE.size) dc) (.int .i64 (rootOf [lwI] lwE))) 28)
 have HB1:=hide (bel hb hb2)
 have HL1:=hide (HL.out _ _ _ _ _ _ _ _ _ _ (hX.later hb2) (hI.later hb2) (hN.later hb2) (nm_short hD.ok))
 clear hX hI hN hb hb2 hD HP HL
 go_wp2_with fail
 refine HL1.out.mono ?_
 intro e V2 hl
 obtain⟨a,c,rfl,hI,hb⟩:=hl.ins
 obtain⟨b,off,rfl,hlt,hat⟩:=hI.at (by decide)
 obtain⟨e0,e1,e2,e3,e4,e5⟩:Cde.at6 V2 b (off+6) ⟨10,0,0,0,0,0⟩:=hat 1 (by decide)
 dsimp only at e0 e1 e2 e3 e4 e5
 have HB2:=hide (bel (bel HB1.out hb) (bel1 V2 (.cells (Cde.cd 0 8 (some ⟨b,off,none⟩) 2 c 1) 32)))
 clear hat hI hl hb HB1 HL1
 go_wp2_with fail
 go_ret
 exact⟨rfl,HB2.out⟩
end Go.Proofs.YtngnnijpdjhelaaGreat
