/- tree.Check's looker at a statement. tree.Check's looker at a procedure that was read. -/
import Derived.Test.YtepkhlpjgnckkaaGreatDoorZB6
namespace Go.Proofs.YtepkhlpjgnckkaaGreatDoor
set_option maxRecDepth 100000
set_option maxHeartbeats 8000000
open Go.RowKit
open Par (Tok Po Tr nx atP isT ba Res Stm Prm Chn Prc Prg)
theorem ls_step {w0:World}{B B2 d:Nat}(hB:w0.heap.size≤B)(hB2:w0.heap.size≤B2)(hne:B2≠B)(hd:d≤11)(hlv:LevAt w0 w0.heap.size)(hblk:∀a:List Stm,(d<11∨a=[])→LbC w0 B B2 (d+1) a)(t:Stm):LsC w0 B B2 d t:=by
 obtain⟨k,p,s,o,dd,l,e,a,c⟩:=t
 intro W b off cs K K2 hW hS hS2 hI hI2 hc ht hX
 rw[show 12 - d=(11 - d)+1 by omega] at hX
 obtain⟨hlab,ha20,hc20,hka,hkc,hways⟩:=stx_ways hX
 obtain⟨lo,lc,z0,z1,z2,z3,z4,z5,m5,d5,z6,m6,d6,ao,ac,bo,bc,rfl,hs,ho,hl,he,hra,hrb⟩:=st_open ht
 have hda:d<11∨a=[]:=by
  rcases hways with⟨_,h,_⟩|⟨_,h,_⟩|⟨_,_,_,_,h,_⟩|⟨_,_,_,_,h,_⟩
  ·left;omega
  ·left;omega
  ·exact .inr h
  ·exact .inr h
 have hdc:d<11∨c=[]:=by
  rcases hways with⟨_,h,_⟩|⟨_,h,_⟩|⟨_,_,_,_,_,h⟩|⟨_,_,_,_,_,h⟩
  ·left;omega
  ·left;omega
  ·exact .inr h
  ·exact .inr h
 obtain⟨ll,hll⟩:∃ll,ll=l.length:=⟨_,rfl⟩
 obtain⟨an,han⟩:∃an,an=a.length:=⟨_,rfl⟩
 obtain⟨bn,hbn⟩:∃bn,bn=c.length:=⟨_,rfl⟩
 rw[←hll] at hl hc
 rw[←han,←hbn] at hc
 have hcW:ExAt W b off [.int .i64 k,.int .i64 p,.string s,.string o,.bool dd,.slice lo ll lc,.int .i64 z0,.int .i64 z1,.int .i64 z2,.int .i64 z3,.string z4,.slice z5 m5 d5,.slice z6 m6 d6,.slice ao an ac,.slice bo bn bc]:=hc.keeps hW.size (hW.block _ hc.lt)
 have hlt:=hcW.lt
 have c0:W.cell? ⟨b,off,none⟩=some (.int .i64 k):=hcW.cell 0 _ rfl
 have c4:W.cell? ⟨b,off+4,none⟩=some (.bool dd):=hcW.cell 4 _ rfl
 have c5:W.cell? ⟨b,off+5,none⟩=some (.slice lo ll lc):=hcW.cell 5 _ rfl
 have c13w:W.cell? ⟨b,off+13,none⟩=some (.slice ao an ac):=hcW.cell 13 _ rfl
 have c14w:W.cell? ⟨b,off+14,none⟩=some (.slice bo bn bc):=hcW.cell 14 _ rfl
 have hlB:=hS.lt
 have hlB2:=hS2.lt
 have hblw0:=hc.lt
 obtain⟨W0,hW0⟩:∃W0,W0=W.alloc (.cells #[.map (some B),.map (some B2)] 124):=⟨_,rfl⟩
 have hb0:Below W.heap.size W W0:=by rw[hW0];exact(Below.refl _ _).alloc (Nat.le_refl _) _
 have hk0:W0.heap[W.heap.size]? =some (.cells #[.map (some B),.map (some B2)] 124 (0,0)):=by rw[hW0];exact heap_at_alloc _ _ _ rfl
 have hcW0:ExAt W0 b off [.int .i64 k,.int .i64 p,.string s,.string o,.bool dd,.slice lo ll lc,.int .i64 z0,.int .i64 z1,.int .i64 z2,.int .i64 z3,.string z4,.slice z5 m5 d5,.slice z6 m6 d6,.slice ao an ac,.slice bo bn bc]:=hcW.keeps hb0.size (hb0.block _ hlt)
 have hlt0:=hcW0.lt
 have k0:W0.cell? ⟨b,off,none⟩=some (.int .i64 k):=hcW0.cell 0 _ rfl
 have k4:W0.cell? ⟨b,off+4,none⟩=some (.bool dd):=hcW0.cell 4 _ rfl
 have k5:W0.cell? ⟨b,off+5,none⟩=some (.slice lo ll lc):=hcW0.cell 5 _ rfl
 have k13:W0.cell? ⟨b,off+13,none⟩=some (.slice ao an ac):=hcW0.cell 13 _ rfl
 have k14:W0.cell? ⟨b,off+14,none⟩=some (.slice bo bn bc):=hcW0.cell 14 _ rfl
 have hlf:=labFT ((hl.keeps (Keeps.of_below hW)).mono (S':=fun _=>True) (fun _ _ _=>trivial) |>.keeps (Keeps.of_below hb0)) hlab
 have HT:Hid (∀W1,Below W.heap.size W W1→Below w0.heap.size w0 W1∧SetP W1 B K∧SetP W1 B2 K2):=fun W1 h1=>⟨hW.trans (h1.mono hW.size),set_low hS h1,set_low hS2 h1⟩
 have HB0:Hid (Below W.heap.size W W0):=hb0
 have HK0:Hid (W0.heap[W.heap.size]? =some (.cells #[.map (some B),.map (some B2)] 124 (0,0))):=hk0
 have HCA0:Hid (ExAt w0 b off [.int .i64 k,.int .i64 p,.string s,.string o,.bool dd,.slice lo ll lc,.int .i64 z0,.int .i64 z1,.int .i64 z2,.int .i64 z3,.string z4,.slice z5 m5 d5,.slice z6 m6 d6,.slice ao an ac,.slice bo bn bc]):=hc
 have HI1:Hid (InvP w0 K 0):=hI
 have HI2:Hid (InvS w0 K2 (d+1)):=hI2
 have HX:Hid (Par.StX ((11 - d)+1) (.mk k p s o dd l e a c)):=hX
 have HE:Hid (TrIs w0 (fun b=>b<w0.heap.size) e [.int .i64 z0,.int .i64 z1,.int .i64 z2,.int .i64 z3,.string z4,.slice z5 m5 d5,.slice z6 m6 d6]):=he
 have HSZ:Hid (s.size≤maxLen∧o.size≤maxLen):=⟨hs,ho⟩
 have hLBs:∀(q:List Stm) (qo:Option Addr) (qc:Nat),(d<11∨q=[])→RwV StIs w0 (fun b=>b<w0.heap.size) 15 (.slice qo q.length qc) q→(∀x∈q,Par.StX (11 - d) x)→q.length≤20→∀(w2:World) (K' K2':List PK),Below w0.heap.size w0 w2→SetP w2 B K'→SetP w2 B2 K2'→InvP w0 K' 0→InvS w0 K2' (d+1)→Calls Tryz.prog 82 #[.agg #[.map (some B),.map (some B2)],.slice qo q.length qc,.int .i64 ((d+1:Nat):Int)] w2 fun x W'=>∃K3 K4,x=.returned (.bool (dB (∀x∈q,DpS x)))∧SetP W' B K3∧SetP W' B2 K4∧Gr2 B B2 w2 W'∧(∀p∈K4,p∈K2'∨d+1≤p.2.2.2)∧((∀x∈q,DpS x)→InvP w0 K3 0∧InvS w0 K4 (d+1)):=fun q qo qc h1 h2 h3 h4 w2 K' K2' g1 g2 g3 g4 g5=>hblk q h1 w2 qo qc K' K2' g1 g2 g3 g4 g5 h2 (by rw[show 12 - (d+1)=11 - d by omega];exact h3) h4
 have hLA:=hLBs a ao ac hda hra hka ha20
 have hLC:=hLBs c bo bc hdc hrb hkc hc20
 rw[←han] at hLA
 rw[←hbn] at hLC
 have HLA:Hid _:=hLA
 have HLC:Hid _:=hLC
 have HLV:Hid (LevAt w0 w0.heap.size):=hlv
 have HHB:Hid (w0.heap.size≤B∧w0.heap.size≤B2):=⟨hB,hB2⟩
 have hbB:b≠B:=by omega
 have hbB2:b≠B2:=by omega
 have hLB:W.heap.size≠B:=by omega
 have hLB2:W.heap.size≠B2:=by omega
 have hc1:IntKind.i64.wrap ((d:Int)+1)=((d+1:Nat):Int):=by rw[IntKind.wrap_i64];omega
 have WAYS:∃(n3 n4:Bool),(k==3)=n3∧(k==4)=n4∧(n3=true∧n4=false∧decide ((11:Int)≤(d:Int))=false∧dd=false∧decide (0<ll)=false∨n3=false∧n4=true∧decide ((11:Int)≤(d:Int))=false∧dd=false∧decide (0<ll)=false∧decide (0<bn)=false∨n3=false∧n4=false∧decide (0<an)=false∧decide (0<bn)=false∧dd=true∧(k !=1)=false∨n3=false∧n4=false∧decide (0<an)=false∧decide (0<bn)=false∧dd=false∧decide (0<ll)=false):=by
  refine⟨_,_,rfl,rfl,?_⟩
  rcases hways with⟨h1,h2,h3,h4⟩|⟨h1,h2,h3,h4,h5⟩|⟨h1,h2,h3,h4,h5,h6⟩|⟨h1,h2,h3,h4,h5,h6⟩
  ·exact .inl ⟨by simp[h1],by simp[h1],by simp;omega,h3,by rw[hll,h4];rfl⟩
  ·exact .inr (.inl ⟨by simp[h1],by simp[h1],by simp;omega,h3,by rw[hll,h4];rfl,by rw[hbn,h5];rfl⟩)
  ·exact .inr (.inr (.inl ⟨by simp[h1],by simp[h2],by rw[han,h5];rfl,by rw[hbn,h6];rfl,h4,by simp[h3]⟩))
  ·exact .inr (.inr (.inr ⟨by simp[h1],by simp[h2],by rw[han,h5];rfl,by rw[hbn,h6];rfl,h3,by rw[hll,h4];rfl⟩))
 obtain⟨n3,n4,e3,e4,hw4⟩:=WAYS
 have e3':(k !=3)= !n3:=by rw[←e3];rfl
 have HC1B:Hid (∀W1,Below W.heap.size W W1→Calls Tryz.prog 154 #[.agg #[.map (some B),.map (some B2)],.pointer (some ⟨b,off,none⟩)] W1.drew fun x W'=>∃K',x=.returned (.bool (dB (k≠6→Par.formD 12 e=true)))∧SetP W' B K'∧W1.drew.grownBy W' (some B)∧((k≠6→Par.formD 12 e=true)→InvP w0 K' 0)):=fun W1 h1=>operC (B2:=B2) hB hlv hX (below_dn (hW.trans (h1.mono hW.size)) 1) ((set_low hS h1).keeps rfl fun _ _=>rfl) hI hc he
 have HNMB:Hid (∀W1,Below W.heap.size W W1→Calls Tryz.prog 153 #[.pointer (some ⟨b,off,none⟩)] W1.drew fun x w'=>x=.returned (.bool true)∧w'=W1.drew):=fun W1 h1=>by
  have hcc:ExAt W1 b off [.int .i64 k,.int .i64 p,.string s,.string o,.bool dd,.slice lo ll lc,.int .i64 z0,.int .i64 z1,.int .i64 z2,.int .i64 z3,.string z4,.slice z5 m5 d5,.slice z6 m6 d6,.slice ao an ac,.slice bo bn bc]:=hcW.keeps h1.size (h1.block _ hlt)
  exact nmsC hX hs ho (hcc.cell 0 _ rfl) (hcc.cell 2 _ rfl) (hcc.cell 3 _ rfl) hcc.lt
 clear hW hS hS2 hI hI2 hc ht hX hlab ha20 hc20 hka hkc hways hl he hra hrb hda hdc hll han hbn hcW hcW0 hb0 hk0 hLBs hLA hLC hblk hlv hs ho
 go_enter Tryz.func118,Tryz.ntmps118
 go_upto_region 1 with fail
 rw[←hW0]
 clear hW0 c0 c4 c5 c13w c14w
 go_cut [7] (fun s7 wc=>s7=.bool (n3 || n4)∧W0=wc)
 case first=>
  cases n3<;>cases n4
  all_goals
   go_wp2
   go_meet
   exact⟨rfl,rfl⟩
 case rest=>
  obtain⟨rfl,rfl⟩:=hcut
  go_upto_region 2 with fail
  go_cut [51] (fun s51 wc=>s51=.bool false∧W0=wc)
  case first=>
   rcases hw4 with⟨rfl,rfl,g1,rfl,g2⟩|⟨rfl,rfl,g1,rfl,g2,g3⟩|⟨rfl,rfl,g1,g2,rfl,g3⟩|⟨rfl,rfl,g1,g2,rfl,g3⟩
   all_goals
    simp only[Bool.or_false,Bool.or_true,Bool.not_true,Bool.not_false] at e3'⊢
    go_wp2
    go_meet
    exact⟨rfl,rfl⟩
  case rest=>
   obtain⟨rfl,rfl⟩:=hcut
   go_upto_region 4 with fail
   go_cut [85] (fun s85 wc=>s85=.bool false∧Hid (Below W0.heap.size W0 wc))
   case first=>
    have hw5:(dd=true∧(k !=1)=false)∨(dd=false∧decide (0<ll)=false):=by
     rcases hw4 with⟨_,_,_,h1,h2⟩|⟨_,_,_,h1,h2,_⟩|⟨_,_,_,_,h1,h2⟩|⟨_,_,_,_,h1,h2⟩
     ·exact .inr ⟨h1,h2⟩
     ·exact .inr ⟨h1,h2⟩
     ·exact .inl ⟨h1,h2⟩
     ·exact .inr ⟨h1,h2⟩
    clear hw4 e3 e4 e3'
    rcases hw5 with⟨rfl,g1⟩|⟨rfl,g1⟩
    all_goals
     go_wp2_with fail
     refine hlf.mono ?_
     rintro x W1 ⟨rfl,hb1⟩
     have HB1:Hid (Below W0.heap.size W0 W1):=hb1
     clear hb1 hlf
     go_wp2
     go_meet
     exact⟨rfl,HB1.out⟩
   case rest=>
    obtain⟨rfl,HBc⟩:=hcut
    obtain⟨W1,rfl⟩:∃W1,W1=wc:=⟨_,rfl⟩
    have HB1:Hid (Below W.heap.size W W1):=HB0.out.trans (HBc.out.mono HB0.out.size)
    have HK1:Hid (W1.heap[W.heap.size]? =some (.cells #[.map (some B),.map (some B2)] 124 (0,0))):=(HBc.out.block _ (lt_of_block HK0.out)).trans HK0.out
    have HGW:Hid (Gr2 B B2 W W1):=Gr2.of_below HB1.out
    have HW1:Hid (Below w0.heap.size w0 W1):=(HT.out _ HB1.out).1
    have HS1:Hid (SetP W1.drew B K∧SetP W1.drew B2 K2):=⟨(HT.out _ HB1.out).2.1.keeps rfl fun _ _=>rfl,(HT.out _ HB1.out).2.2.keeps rfl fun _ _=>rfl⟩
    obtain⟨hcl,_⟩:=bcell HBc.out
    have c13:W1.cell? ⟨b,off+13,none⟩=some (.slice ao an ac):=(hcl _ _ hlt0).trans k13
    have c14:W1.cell? ⟨b,off+14,none⟩=some (.slice bo bn bc):=(hcl _ _ hlt0).trans k14
    have hbl:b<W1.heap.size:=Nat.lt_of_lt_of_le hlt HB1.out.size
    obtain⟨l0,l1⟩:=blkL HK1.out
    have hlk:=lt_of_block HK1.out
    have hop:=HC1B.out _ HB1.out
    have HNM:=HNMB.out _ HB1.out
    clear hlf hcl k0 k4 k5 k13 k14 hw4 e3 e4 e3' HBc
    go_upto_region 6 with fail
    by_cases hC1:(k≠6→Par.formD 12 e=true)
    rotate_left
    ·rw[dB_false hC1] at hop
     have HC1:Hid (¬(k≠6→Par.formD 12 e=true)):=hC1
     clear hC1
     refine wp_region_held_drew (S:=(fun w'=>w'.cell? ⟨W.heap.size,0,none⟩=some (.map (some B))∧w'.cell? ⟨W.heap.size,1,none⟩=some (.map (some B2))∧w'.cell? ⟨b,off+13,none⟩=some (.slice ao an ac)∧w'.cell? ⟨b,off+14,none⟩=some (.slice bo bn bc))) (by kernel_rfl) ⟨l0,l1,c13,c14⟩ (fun hHeld=> ?_)
     refine heldD (i:=0) 86 (v:=.pointer (some ⟨b,off,none⟩)) rfl rfl (by kernel_rfl) (by kernel_rfl) (by kernel_rfl) (fun _ _ _ h=>h) (Or.inl ⟨by rfl,fun W' hw=>by obtain⟨hw0,hw1,hw2,hw3⟩:=hw;go_simp⟩) hHeld ?_
     simp only[Act.put,List.setIfInBounds_toArray,List.set_cons_succ,List.set_cons_zero]
     refine wpAnyH_ready (rs:=[1]) (by kernel_rfl) (by simp) ?_
     refine AllReadyH.cons rfl (fun K' hK=> ?_) AllReadyH.nil
     go_simp
     go_at_call 153
     refine(HNM).mono ?_
     rintro x w2 ⟨rfl,hw2⟩
     have hw2s:=hw2.symm
     subst hw2s
     refine hK.out _ _ hHeld ?_
     clear hK K'
     intro _
     try simp only[Act.put,List.setIfInBounds_toArray,List.set_cons_succ,List.set_cons_zero]
     refine heldD (i:=2) 88 (v:=.bool true) rfl rfl (by kernel_rfl) (by kernel_rfl) (by kernel_rfl) (fun _ _ _ h=>h) (Or.inl ⟨by rfl,fun W' hw=>by obtain⟨hw0,hw1,hw2,hw3⟩:=hw;go_simp⟩) hHeld ?_
     simp only[Act.put,List.setIfInBounds_toArray,List.set_cons_succ,List.set_cons_zero]
     refine heldD (i:=3) 89 (v:=.agg #[.map (some B),.map (some B2)]) rfl rfl (by kernel_rfl) (by kernel_rfl) (by kernel_rfl) (fun _ _ _ h=>h) (Or.inl ⟨by simp[Region.wanted,yielded],fun W' hw=>by obtain⟨hw0,hw1,hw2,hw3⟩:=hw;go_simp⟩) hHeld ?_
     simp only[Act.put,List.setIfInBounds_toArray,List.set_cons_succ,List.set_cons_zero]
     refine heldD (i:=4) 90 (v:=.pointer (some ⟨b,off,none⟩)) rfl rfl (by kernel_rfl) (by kernel_rfl) (by kernel_rfl) (fun _ _ _ h=>h) (Or.inl ⟨by simp[Region.wanted,yielded],fun W' hw=>by obtain⟨hw0,hw1,hw2,hw3⟩:=hw;go_simp⟩) hHeld ?_
     simp only[Act.put,List.setIfInBounds_toArray,List.set_cons_succ,List.set_cons_zero]
     refine wpAnyH_ready (rs:=[5]) (by kernel_rfl) (by simp) ?_
     refine AllReadyH.cons rfl (fun KK hK=> ?_) AllReadyH.nil
     go_simp
     go_at_call 154
     refine(hop).mono ?_
     rintro x w2 ⟨K',rfl,hs2,hg2,hi2⟩
     have hgg:Gr2 B B2 W1 w2:=(Gr2.of_one hg2).undrew (n:=1)
     have H2:Hid (SetP w2 B K'∧SetP w2 B2 K2∧Gr2 B B2 W1 w2∧((k≠6→Par.formD 12 e=true)→InvP w0 K' 0)):=⟨hs2,set_other HS1.out.1 HS1.out.2 hne hg2,hgg,hi2⟩
     refine hK.out _ _ ⟨(World.cell?_of_block (a:=⟨W.heap.size,0,none⟩) (hgg.block W.heap.size hlk (by omega) (by omega))).trans l0,(World.cell?_of_block (a:=⟨W.heap.size,1,none⟩) (hgg.block W.heap.size hlk (by omega) (by omega))).trans l1,(World.cell?_of_block (a:=⟨b,off+13,none⟩) (hgg.block b hbl (by omega) (by omega))).trans c13,(World.cell?_of_block (a:=⟨b,off+14,none⟩) (hgg.block b hbl (by omega) (by omega))).trans c14⟩ ?_
     clear hs2 hg2 hi2 hgg
     clear hK KK hHeld
     intro hHeld
     try simp only[Act.put,List.setIfInBounds_toArray,List.set_cons_succ,List.set_cons_zero]
     refine heldD (i:=6) 92 (v:=.bool false) rfl rfl (by kernel_rfl) (by kernel_rfl) (by kernel_rfl) (fun _ _ _ h=>h) (Or.inl ⟨by rfl,fun W' hw=>by obtain⟨hw0,hw1,hw2,hw3⟩:=hw;go_simp⟩) hHeld ?_
     simp only[Act.put,List.setIfInBounds_toArray,List.set_cons_succ,List.set_cons_zero]
     refine heldD (i:=7) 93 (v:=.bool false) rfl rfl (by kernel_rfl) (by kernel_rfl) (by kernel_rfl) (fun _ _ _ h=>h) (Or.inl ⟨by rfl,fun W' hw=>by obtain⟨hw0,hw1,hw2,hw3⟩:=hw;go_simp⟩) hHeld ?_
     simp only[Act.put,List.setIfInBounds_toArray,List.set_cons_succ,List.set_cons_zero]
     refine heldD (i:=8) 94 (v:=undef) rfl rfl (by kernel_rfl) (by kernel_rfl) (by kernel_rfl) (fun _ _ _ h=>h) (Or.inr ⟨by simp[Region.wanted,yielded],rfl⟩) hHeld ?_
     simp only[Act.put,List.setIfInBounds_toArray,List.set_cons_succ,List.set_cons_zero]
     refine heldD (i:=9) 95 (v:=undef) rfl rfl (by kernel_rfl) (by kernel_rfl) (by kernel_rfl) (fun _ _ _ h=>h) (Or.inr ⟨by simp[Region.wanted,yielded],rfl⟩) hHeld ?_
     simp only[Act.put,List.setIfInBounds_toArray,List.set_cons_succ,List.set_cons_zero]
     refine heldD (i:=10) 96 (v:=undef) rfl rfl (by kernel_rfl) (by kernel_rfl) (by kernel_rfl) (fun _ _ _ h=>h) (Or.inr ⟨by simp[Region.wanted,yielded],rfl⟩) hHeld ?_
     simp only[Act.put,List.setIfInBounds_toArray,List.set_cons_succ,List.set_cons_zero]
     refine heldD (i:=11) 97 (v:=undef) rfl rfl (by kernel_rfl) (by kernel_rfl) (by kernel_rfl) (fun _ _ _ h=>h) (Or.inr ⟨by simp[Region.wanted,yielded],rfl⟩) hHeld ?_
     simp only[Act.put,List.setIfInBounds_toArray,List.set_cons_succ,List.set_cons_zero]
     refine heldD (i:=12) 98 (v:=undef) rfl rfl (by kernel_rfl) (by kernel_rfl) (by kernel_rfl) (fun _ _ _ h=>h) (Or.inr ⟨by simp[Region.wanted,yielded],rfl⟩) hHeld ?_
     simp only[Act.put,List.setIfInBounds_toArray,List.set_cons_succ,List.set_cons_zero]
     refine heldD (i:=13) 99 (v:=undef) rfl rfl (by kernel_rfl) (by kernel_rfl) (by kernel_rfl) (fun _ _ _ h=>h) (Or.inr ⟨by simp[Region.wanted,yielded],rfl⟩) hHeld ?_
     simp only[Act.put,List.setIfInBounds_toArray,List.set_cons_succ,List.set_cons_zero]
     refine heldD (i:=14) 100 (v:=undef) rfl rfl (by kernel_rfl) (by kernel_rfl) (by kernel_rfl) (fun _ _ _ h=>h) (Or.inr ⟨by simp[Region.wanted,yielded],rfl⟩) hHeld ?_
     simp only[Act.put,List.setIfInBounds_toArray,List.set_cons_succ,List.set_cons_zero]
     refine heldD (i:=15) 101 (v:=undef) rfl rfl (by kernel_rfl) (by kernel_rfl) (by kernel_rfl) (fun _ _ _ h=>h) (Or.inr ⟨by simp[Region.wanted,yielded],rfl⟩) hHeld ?_
     simp only[Act.put,List.setIfInBounds_toArray,List.set_cons_succ,List.set_cons_zero]
     refine heldD (i:=16) 102 (v:=.bool false) rfl rfl (by kernel_rfl) (by kernel_rfl) (by kernel_rfl) (fun _ _ _ h=>h) (Or.inl ⟨by rfl,fun W' hw=>by obtain⟨hw0,hw1,hw2,hw3⟩:=hw;go_simp⟩) hHeld ?_
     simp only[Act.put,List.setIfInBounds_toArray,List.set_cons_succ,List.set_cons_zero]
     refine heldD (i:=17) 103 (v:=.bool false) rfl rfl (by kernel_rfl) (by kernel_rfl) (by kernel_rfl) (fun _ _ _ h=>h) (Or.inl ⟨by rfl,fun W' hw=>by obtain⟨hw0,hw1,hw2,hw3⟩:=hw;go_simp⟩) hHeld ?_
     simp only[Act.put,List.setIfInBounds_toArray,List.set_cons_succ,List.set_cons_zero]
     refine heldD (i:=18) 104 (v:=undef) rfl rfl (by kernel_rfl) (by kernel_rfl) (by kernel_rfl) (fun _ _ _ h=>h) (Or.inr ⟨by simp[Region.wanted,yielded],rfl⟩) hHeld ?_
     simp only[Act.put,List.setIfInBounds_toArray,List.set_cons_succ,List.set_cons_zero]
     refine heldD (i:=19) 105 (v:=undef) rfl rfl (by kernel_rfl) (by kernel_rfl) (by kernel_rfl) (fun _ _ _ h=>h) (Or.inr ⟨by simp[Region.wanted,yielded],rfl⟩) hHeld ?_
     simp only[Act.put,List.setIfInBounds_toArray,List.set_cons_succ,List.set_cons_zero]
     refine heldD (i:=20) 106 (v:=undef) rfl rfl (by kernel_rfl) (by kernel_rfl) (by kernel_rfl) (fun _ _ _ h=>h) (Or.inr ⟨by simp[Region.wanted,yielded],rfl⟩) hHeld ?_
     simp only[Act.put,List.setIfInBounds_toArray,List.set_cons_succ,List.set_cons_zero]
     refine heldD (i:=21) 107 (v:=undef) rfl rfl (by kernel_rfl) (by kernel_rfl) (by kernel_rfl) (fun _ _ _ h=>h) (Or.inr ⟨by simp[Region.wanted,yielded],rfl⟩) hHeld ?_
     simp only[Act.put,List.setIfInBounds_toArray,List.set_cons_succ,List.set_cons_zero]
     refine heldD (i:=22) 108 (v:=undef) rfl rfl (by kernel_rfl) (by kernel_rfl) (by kernel_rfl) (fun _ _ _ h=>h) (Or.inr ⟨by simp[Region.wanted,yielded],rfl⟩) hHeld ?_
     simp only[Act.put,List.setIfInBounds_toArray,List.set_cons_succ,List.set_cons_zero]
     refine heldD (i:=23) 109 (v:=undef) rfl rfl (by kernel_rfl) (by kernel_rfl) (by kernel_rfl) (fun _ _ _ h=>h) (Or.inr ⟨by simp[Region.wanted,yielded],rfl⟩) hHeld ?_
     simp only[Act.put,List.setIfInBounds_toArray,List.set_cons_succ,List.set_cons_zero]
     refine heldD (i:=24) 110 (v:=undef) rfl rfl (by kernel_rfl) (by kernel_rfl) (by kernel_rfl) (fun _ _ _ h=>h) (Or.inr ⟨by simp[Region.wanted,yielded],rfl⟩) hHeld ?_
     simp only[Act.put,List.setIfInBounds_toArray,List.set_cons_succ,List.set_cons_zero]
     refine heldD (i:=25) 111 (v:=undef) rfl rfl (by kernel_rfl) (by kernel_rfl) (by kernel_rfl) (fun _ _ _ h=>h) (Or.inr ⟨by simp[Region.wanted,yielded],rfl⟩) hHeld ?_
     simp only[Act.put,List.setIfInBounds_toArray,List.set_cons_succ,List.set_cons_zero]
     refine heldD (i:=26) 112 (v:=.bool false) rfl rfl (by kernel_rfl) (by kernel_rfl) (by kernel_rfl) (fun _ _ _ h=>h) (Or.inl ⟨by rfl,fun W' hw=>by obtain⟨hw0,hw1,hw2,hw3⟩:=hw;go_simp⟩) hHeld ?_
     simp only[Act.put,List.setIfInBounds_toArray,List.set_cons_succ,List.set_cons_zero]
     refine heldD (i:=27) 6 (v:=.bool false) rfl rfl (by kernel_rfl) (by kernel_rfl) (by kernel_rfl) (fun _ _ _ h=>h) (Or.inl ⟨by rfl,fun W' hw=>by obtain⟨hw0,hw1,hw2,hw3⟩:=hw;go_simp⟩) hHeld ?_
     simp only[Act.put,List.setIfInBounds_toArray,List.set_cons_succ,List.set_cons_zero]
     refine wpAnyH_done (by kernel_rfl) ?_ _
     go_wp2
     refine bodyPost_ret (v:=.bool false) (by simp[results,Tryz.results118,go_sem]) rfl ?_
     exact⟨K',K2,congrArg (fun b=>Ending.returned (Value.bool b)) (dB_false fun h=>HC1.out (dps_iff.1 h).1).symm,H2.out.1,H2.out.2.1,HGW.out.trans H2.out.2.2.1,fun p hp=>.inl hp,fun h=>absurd (dps_iff.1 h).1 HC1.out⟩
    rw[dB_true hC1] at hop
    have HC1:Hid (k≠6→Par.formD 12 e=true):=hC1
    clear hC1
    by_cases hCA:∀x∈a,DpS x
    rotate_left
    ·have HCA:Hid (¬∀x∈a,DpS x):=hCA
     clear hCA
     refine wp_region_held_drew (S:=(fun w'=>w'.cell? ⟨W.heap.size,0,none⟩=some (.map (some B))∧w'.cell? ⟨W.heap.size,1,none⟩=some (.map (some B2))∧w'.cell? ⟨b,off+13,none⟩=some (.slice ao an ac)∧w'.cell? ⟨b,off+14,none⟩=some (.slice bo bn bc))) (by kernel_rfl) ⟨l0,l1,c13,c14⟩ (fun hHeld=> ?_)
     refine heldD (i:=0) 86 (v:=.pointer (some ⟨b,off,none⟩)) rfl rfl (by kernel_rfl) (by kernel_rfl) (by kernel_rfl) (fun _ _ _ h=>h) (Or.inl ⟨by rfl,fun W' hw=>by obtain⟨hw0,hw1,hw2,hw3⟩:=hw;go_simp⟩) hHeld ?_
     simp only[Act.put,List.setIfInBounds_toArray,List.set_cons_succ,List.set_cons_zero]
     refine wpAnyH_ready (rs:=[1]) (by kernel_rfl) (by simp) ?_
     refine AllReadyH.cons rfl (fun K' hK=> ?_) AllReadyH.nil
     go_simp
     go_at_call 153
     refine(HNM).mono ?_
     rintro x w2 ⟨rfl,hw2⟩
     have hw2s:=hw2.symm
     subst hw2s
     refine hK.out _ _ hHeld ?_
     clear hK K'
     intro _
     try simp only[Act.put,List.setIfInBounds_toArray,List.set_cons_succ,List.set_cons_zero]
     refine heldD (i:=2) 88 (v:=.bool true) rfl rfl (by kernel_rfl) (by kernel_rfl) (by kernel_rfl) (fun _ _ _ h=>h) (Or.inl ⟨by rfl,fun W' hw=>by obtain⟨hw0,hw1,hw2,hw3⟩:=hw;go_simp⟩) hHeld ?_
     simp only[Act.put,List.setIfInBounds_toArray,List.set_cons_succ,List.set_cons_zero]
     refine heldD (i:=3) 89 (v:=.agg #[.map (some B),.map (some B2)]) rfl rfl (by kernel_rfl) (by kernel_rfl) (by kernel_rfl) (fun _ _ _ h=>h) (Or.inl ⟨by simp[Region.wanted,yielded],fun W' hw=>by obtain⟨hw0,hw1,hw2,hw3⟩:=hw;go_simp⟩) hHeld ?_
     simp only[Act.put,List.setIfInBounds_toArray,List.set_cons_succ,List.set_cons_zero]
     refine heldD (i:=4) 90 (v:=.pointer (some ⟨b,off,none⟩)) rfl rfl (by kernel_rfl) (by kernel_rfl) (by kernel_rfl) (fun _ _ _ h=>h) (Or.inl ⟨by simp[Region.wanted,yielded],fun W' hw=>by obtain⟨hw0,hw1,hw2,hw3⟩:=hw;go_simp⟩) hHeld ?_
     simp only[Act.put,List.setIfInBounds_toArray,List.set_cons_succ,List.set_cons_zero]
     refine wpAnyH_ready (rs:=[5]) (by kernel_rfl) (by simp) ?_
     refine AllReadyH.cons rfl (fun KK hK=> ?_) AllReadyH.nil
     go_simp
     go_at_call 154
     refine(hop).mono ?_
     rintro x w2 ⟨K',rfl,hs2,hg2,hi2⟩
     have hgg:Gr2 B B2 W1 w2:=(Gr2.of_one hg2).undrew (n:=1)
     have H2:Hid (SetP w2 B K'∧SetP w2 B2 K2∧Gr2 B B2 W1 w2∧((k≠6→Par.formD 12 e=true)→InvP w0 K' 0)):=⟨hs2,set_other HS1.out.1 HS1.out.2 hne hg2,hgg,hi2⟩
     refine hK.out _ _ ⟨(World.cell?_of_block (a:=⟨W.heap.size,0,none⟩) (hgg.block W.heap.size hlk (by omega) (by omega))).trans l0,(World.cell?_of_block (a:=⟨W.heap.size,1,none⟩) (hgg.block W.heap.size hlk (by omega) (by omega))).trans l1,(World.cell?_of_block (a:=⟨b,off+13,none⟩) (hgg.block b hbl (by omega) (by omega))).trans c13,(World.cell?_of_block (a:=⟨b,off+14,none⟩) (hgg.block b hbl (by omega) (by omega))).trans c14⟩ ?_
     clear hs2 hg2 hi2 hgg
     clear hK KK hHeld
     intro hHeld
     try simp only[Act.put,List.setIfInBounds_toArray,List.set_cons_succ,List.set_cons_zero]
     refine heldD (i:=6) 92 (v:=.bool true) rfl rfl (by kernel_rfl) (by kernel_rfl) (by kernel_rfl) (fun _ _ _ h=>h) (Or.inl ⟨by rfl,fun W' hw=>by obtain⟨hw0,hw1,hw2,hw3⟩:=hw;go_simp⟩) hHeld ?_
     simp only[Act.put,List.setIfInBounds_toArray,List.set_cons_succ,List.set_cons_zero]
     refine heldD (i:=7) 93 (v:=.bool true) rfl rfl (by kernel_rfl) (by kernel_rfl) (by kernel_rfl) (fun _ _ _ h=>h) (Or.inl ⟨by rfl,fun W' hw=>by obtain⟨hw0,hw1,hw2,hw3⟩:=hw;go_simp⟩) hHeld ?_
     simp only[Act.put,List.setIfInBounds_toArray,List.set_cons_succ,List.set_cons_zero]
     refine heldD (i:=8) 94 (v:=.agg #[.map (some B),.map (some B2)]) rfl rfl (by kernel_rfl) (by kernel_rfl) (by kernel_rfl) (fun _ _ _ h=>h) (Or.inl ⟨by simp[Region.wanted,yielded],fun W' hw=>by obtain⟨hw0,hw1,hw2,hw3⟩:=hw;go_simp⟩) hHeld ?_
     simp only[Act.put,List.setIfInBounds_toArray,List.set_cons_succ,List.set_cons_zero]
     refine heldD (i:=9) 95 (v:=.pointer (some ⟨b,off,none⟩)) rfl rfl (by kernel_rfl) (by kernel_rfl) (by kernel_rfl) (fun _ _ _ h=>h) (Or.inl ⟨by simp[Region.wanted,yielded],fun W' hw=>by obtain⟨hw0,hw1,hw2,hw3⟩:=hw;go_simp⟩) hHeld ?_
     simp only[Act.put,List.setIfInBounds_toArray,List.set_cons_succ,List.set_cons_zero]
     refine heldD (i:=10) 96 (v:=.pointer (some ⟨b,off,none⟩)) rfl rfl (by kernel_rfl) (by kernel_rfl) (by kernel_rfl) (fun _ _ _ h=>h) (Or.inl ⟨by simp[Region.wanted,yielded],fun W' hw=>by obtain⟨hw0,hw1,hw2,hw3⟩:=hw;go_simp⟩) hHeld ?_
     simp only[Act.put,List.setIfInBounds_toArray,List.set_cons_succ,List.set_cons_zero]
     refine heldD (i:=11) 97 (v:=.pointer (some ⟨b,off+13,none⟩)) rfl rfl (by kernel_rfl) (by kernel_rfl) (by kernel_rfl) (fun _ _ _ h=>h) (Or.inl ⟨by simp[Region.wanted,yielded],fun W' hw=>by obtain⟨hw0,hw1,hw2,hw3⟩:=hw;go_simp⟩) hHeld ?_
     simp only[Act.put,List.setIfInBounds_toArray,List.set_cons_succ,List.set_cons_zero]
     refine heldD (i:=12) 98 (v:=.slice ao an ac) rfl rfl (by kernel_rfl) (by kernel_rfl) (by kernel_rfl) (fun _ _ _ h=>h) (Or.inl ⟨by simp[Region.wanted,yielded],fun W' hw=>by obtain⟨hw0,hw1,hw2,hw3⟩:=hw;go_simp⟩) hHeld ?_
     simp only[Act.put,List.setIfInBounds_toArray,List.set_cons_succ,List.set_cons_zero]
     refine heldD (i:=13) 99 (v:=.int .i64 (d:Int)) rfl rfl (by kernel_rfl) (by kernel_rfl) (by kernel_rfl) (fun _ _ _ h=>h) (Or.inl ⟨by simp[Region.wanted,yielded],fun W' hw=>by obtain⟨hw0,hw1,hw2,hw3⟩:=hw;go_simp⟩) hHeld ?_
     simp only[Act.put,List.setIfInBounds_toArray,List.set_cons_succ,List.set_cons_zero]
     refine heldD (i:=14) 100 (v:=.int .i64 ((d+1:Nat):Int)) rfl rfl (by kernel_rfl) (by kernel_rfl) (by kernel_rfl) (fun _ _ _ h=>h) (Or.inl ⟨by simp[Region.wanted,yielded],fun W' hw=>by obtain⟨hw0,hw1,hw2,hw3⟩:=hw;go_simp⟩) hHeld ?_
     simp only[Act.put,List.setIfInBounds_toArray,List.set_cons_succ,List.set_cons_zero]
     have hba:=HLA.out w2 K' K2 (Gr2.below HW1.out H2.out.2.2.1 HHB.out.1 HHB.out.2) H2.out.1 H2.out.2.1 (H2.out.2.2.2 HC1.out) HI2.out
     rw[dB_false HCA.out] at hba
     refine wpAnyH_ready (rs:=[15]) (by kernel_rfl) (by simp) ?_
     refine AllReadyH.cons rfl (fun KK hK=> ?_) AllReadyH.nil
     go_simp
     go_at_call 82
     refine(hba).mono ?_
     rintro x w3 ⟨K3,K23,rfl,g1,g2,g3,g4,g5⟩
     have hgg:Gr2 B B2 W1 w3:=H2.out.2.2.1.trans g3
     have H3:Hid (SetP w3 B K3∧SetP w3 B2 K23∧Gr2 B B2 W1 w3∧(∀p∈K23,p∈K2∨d+1≤p.2.2.2)∧((∀x∈a,DpS x)→InvP w0 K3 0∧InvS w0 K23 (d+1))):=⟨g1,g2,hgg,g4,g5⟩
     refine hK.out _ _ ⟨(World.cell?_of_block (a:=⟨W.heap.size,0,none⟩) (hgg.block W.heap.size hlk (by omega) (by omega))).trans l0,(World.cell?_of_block (a:=⟨W.heap.size,1,none⟩) (hgg.block W.heap.size hlk (by omega) (by omega))).trans l1,(World.cell?_of_block (a:=⟨b,off+13,none⟩) (hgg.block b hbl (by omega) (by omega))).trans c13,(World.cell?_of_block (a:=⟨b,off+14,none⟩) (hgg.block b hbl (by omega) (by omega))).trans c14⟩ ?_
     clear g1 g2 g3 g4 g5 hgg hba
     clear hK KK hHeld
     intro hHeld
     try simp only[Act.put,List.setIfInBounds_toArray,List.set_cons_succ,List.set_cons_zero]
     refine heldD (i:=16) 102 (v:=.bool false) rfl rfl (by kernel_rfl) (by kernel_rfl) (by kernel_rfl) (fun _ _ _ h=>h) (Or.inl ⟨by rfl,fun W' hw=>by obtain⟨hw0,hw1,hw2,hw3⟩:=hw;go_simp⟩) hHeld ?_
     simp only[Act.put,List.setIfInBounds_toArray,List.set_cons_succ,List.set_cons_zero]
     refine heldD (i:=17) 103 (v:=.bool false) rfl rfl (by kernel_rfl) (by kernel_rfl) (by kernel_rfl) (fun _ _ _ h=>h) (Or.inl ⟨by rfl,fun W' hw=>by obtain⟨hw0,hw1,hw2,hw3⟩:=hw;go_simp⟩) hHeld ?_
     simp only[Act.put,List.setIfInBounds_toArray,List.set_cons_succ,List.set_cons_zero]
     refine heldD (i:=18) 104 (v:=undef) rfl rfl (by kernel_rfl) (by kernel_rfl) (by kernel_rfl) (fun _ _ _ h=>h) (Or.inr ⟨by simp[Region.wanted,yielded],rfl⟩) hHeld ?_
     simp only[Act.put,List.setIfInBounds_toArray,List.set_cons_succ,List.set_cons_zero]
     refine heldD (i:=19) 105 (v:=undef) rfl rfl (by kernel_rfl) (by kernel_rfl) (by kernel_rfl) (fun _ _ _ h=>h) (Or.inr ⟨by simp[Region.wanted,yielded],rfl⟩) hHeld ?_
     simp only[Act.put,List.setIfInBounds_toArray,List.set_cons_succ,List.set_cons_zero]
     refine heldD (i:=20) 106 (v:=undef) rfl rfl (by kernel_rfl) (by kernel_rfl) (by kernel_rfl) (fun _ _ _ h=>h) (Or.inr ⟨by simp[Region.wanted,yielded],rfl⟩) hHeld ?_
     simp only[Act.put,List.setIfInBounds_toArray,List.set_cons_succ,List.set_cons_zero]
     refine heldD (i:=21) 107 (v:=undef) rfl rfl (by kernel_rfl) (by kernel_rfl) (by kernel_rfl) (fun _ _ _ h=>h) (Or.inr ⟨by simp[Region.wanted,yielded],rfl⟩) hHeld ?_
     simp only[Act.put,List.setIfInBounds_toArray,List.set_cons_succ,List.set_cons_zero]
     refine heldD (i:=22) 108 (v:=undef) rfl rfl (by kernel_rfl) (by kernel_rfl) (by kernel_rfl) (fun _ _ _ h=>h) (Or.inr ⟨by simp[Region.wanted,yielded],rfl⟩) hHeld ?_
     simp only[Act.put,List.setIfInBounds_toArray,List.set_cons_succ,List.set_cons_zero]
     refine heldD (i:=23) 109 (v:=undef) rfl rfl (by kernel_rfl) (by kernel_rfl) (by kernel_rfl) (fun _ _ _ h=>h) (Or.inr ⟨by simp[Region.wanted,yielded],rfl⟩) hHeld ?_
     simp only[Act.put,List.setIfInBounds_toArray,List.set_cons_succ,List.set_cons_zero]
     refine heldD (i:=24) 110 (v:=undef) rfl rfl (by kernel_rfl) (by kernel_rfl) (by kernel_rfl) (fun _ _ _ h=>h) (Or.inr ⟨by simp[Region.wanted,yielded],rfl⟩) hHeld ?_
     simp only[Act.put,List.setIfInBounds_toArray,List.set_cons_succ,List.set_cons_zero]
     refine heldD (i:=25) 111 (v:=undef) rfl rfl (by kernel_rfl) (by kernel_rfl) (by kernel_rfl) (fun _ _ _ h=>h) (Or.inr ⟨by simp[Region.wanted,yielded],rfl⟩) hHeld ?_
     simp only[Act.put,List.setIfInBounds_toArray,List.set_cons_succ,List.set_cons_zero]
     refine heldD (i:=26) 112 (v:=.bool false) rfl rfl (by kernel_rfl) (by kernel_rfl) (by kernel_rfl) (fun _ _ _ h=>h) (Or.inl ⟨by rfl,fun W' hw=>by obtain⟨hw0,hw1,hw2,hw3⟩:=hw;go_simp⟩) hHeld ?_
     simp only[Act.put,List.setIfInBounds_toArray,List.set_cons_succ,List.set_cons_zero]
     refine heldD (i:=27) 6 (v:=.bool false) rfl rfl (by kernel_rfl) (by kernel_rfl) (by kernel_rfl) (fun _ _ _ h=>h) (Or.inl ⟨by rfl,fun W' hw=>by obtain⟨hw0,hw1,hw2,hw3⟩:=hw;go_simp⟩) hHeld ?_
     simp only[Act.put,List.setIfInBounds_toArray,List.set_cons_succ,List.set_cons_zero]
     refine wpAnyH_done (by kernel_rfl) ?_ _
     go_wp2
     refine bodyPost_ret (v:=.bool false) (by simp[results,Tryz.results118,go_sem]) rfl ?_
     exact⟨K3,K23,congrArg (fun b=>Ending.returned (Value.bool b)) (dB_false fun h=>HCA.out (dps_iff.1 h).2.1).symm,H3.out.1,H3.out.2.1,HGW.out.trans H3.out.2.2.1,H3.out.2.2.2.1,fun h=>absurd (dps_iff.1 h).2.1 HCA.out⟩
    have HCA:Hid (∀x∈a,DpS x):=hCA
    clear hCA
    refine wp_region_held_drew (S:=(fun w'=>w'.cell? ⟨W.heap.size,0,none⟩=some (.map (some B))∧w'.cell? ⟨W.heap.size,1,none⟩=some (.map (some B2))∧w'.cell? ⟨b,off+13,none⟩=some (.slice ao an ac)∧w'.cell? ⟨b,off+14,none⟩=some (.slice bo bn bc))) (by kernel_rfl) ⟨l0,l1,c13,c14⟩ (fun hHeld=> ?_)
    refine heldD (i:=0) 86 (v:=.pointer (some ⟨b,off,none⟩)) rfl rfl (by kernel_rfl) (by kernel_rfl) (by kernel_rfl) (fun _ _ _ h=>h) (Or.inl ⟨by rfl,fun W' hw=>by obtain⟨hw0,hw1,hw2,hw3⟩:=hw;go_simp⟩) hHeld ?_
    simp only[Act.put,List.setIfInBounds_toArray,List.set_cons_succ,List.set_cons_zero]
    refine wpAnyH_ready (rs:=[1]) (by kernel_rfl) (by simp) ?_
    refine AllReadyH.cons rfl (fun K' hK=> ?_) AllReadyH.nil
    go_simp
    go_at_call 153
    refine(HNM).mono ?_
    rintro x w2 ⟨rfl,hw2⟩
    have hw2s:=hw2.symm
    subst hw2s
    refine hK.out _ _ hHeld ?_
    clear hK K'
    intro _
    try simp only[Act.put,List.setIfInBounds_toArray,List.set_cons_succ,List.set_cons_zero]
    refine heldD (i:=2) 88 (v:=.bool true) rfl rfl (by kernel_rfl) (by kernel_rfl) (by kernel_rfl) (fun _ _ _ h=>h) (Or.inl ⟨by rfl,fun W' hw=>by obtain⟨hw0,hw1,hw2,hw3⟩:=hw;go_simp⟩) hHeld ?_
    simp only[Act.put,List.setIfInBounds_toArray,List.set_cons_succ,List.set_cons_zero]
    refine heldD (i:=3) 89 (v:=.agg #[.map (some B),.map (some B2)]) rfl rfl (by kernel_rfl) (by kernel_rfl) (by kernel_rfl) (fun _ _ _ h=>h) (Or.inl ⟨by simp[Region.wanted,yielded],fun W' hw=>by obtain⟨hw0,hw1,hw2,hw3⟩:=hw;go_simp⟩) hHeld ?_
    simp only[Act.put,List.setIfInBounds_toArray,List.set_cons_succ,List.set_cons_zero]
    refine heldD (i:=4) 90 (v:=.pointer (some ⟨b,off,none⟩)) rfl rfl (by kernel_rfl) (by kernel_rfl) (by kernel_rfl) (fun _ _ _ h=>h) (Or.inl ⟨by simp[Region.wanted,yielded],fun W' hw=>by obtain⟨hw0,hw1,hw2,hw3⟩:=hw;go_simp⟩) hHeld ?_
    simp only[Act.put,List.setIfInBounds_toArray,List.set_cons_succ,List.set_cons_zero]
    refine wpAnyH_ready (rs:=[5]) (by kernel_rfl) (by simp) ?_
    refine AllReadyH.cons rfl (fun KK hK=> ?_) AllReadyH.nil
    go_simp
    go_at_call 154
    refine(hop).mono ?_
    rintro x w2 ⟨K',rfl,hs2,hg2,hi2⟩
    have hgg:Gr2 B B2 W1 w2:=(Gr2.of_one hg2).undrew (n:=1)
    have H2:Hid (SetP w2 B K'∧SetP w2 B2 K2∧Gr2 B B2 W1 w2∧((k≠6→Par.formD 12 e=true)→InvP w0 K' 0)):=⟨hs2,set_other HS1.out.1 HS1.out.2 hne hg2,hgg,hi2⟩
    refine hK.out _ _ ⟨(World.cell?_of_block (a:=⟨W.heap.size,0,none⟩) (hgg.block W.heap.size hlk (by omega) (by omega))).trans l0,(World.cell?_of_block (a:=⟨W.heap.size,1,none⟩) (hgg.block W.heap.size hlk (by omega) (by omega))).trans l1,(World.cell?_of_block (a:=⟨b,off+13,none⟩) (hgg.block b hbl (by omega) (by omega))).trans c13,(World.cell?_of_block (a:=⟨b,off+14,none⟩) (hgg.block b hbl (by omega) (by omega))).trans c14⟩ ?_
    clear hs2 hg2 hi2 hgg
    clear hK KK hHeld
    intro hHeld
    try simp only[Act.put,List.setIfInBounds_toArray,List.set_cons_succ,List.set_cons_zero]
    refine heldD (i:=6) 92 (v:=.bool true) rfl rfl (by kernel_rfl) (by kernel_rfl) (by kernel_rfl) (fun _ _ _ h=>h) (Or.inl ⟨by rfl,fun W' hw=>by obtain⟨hw0,hw1,hw2,hw3⟩:=hw;go_simp⟩) hHeld ?_
    simp only[Act.put,List.setIfInBounds_toArray,List.set_cons_succ,List.set_cons_zero]
    refine heldD (i:=7) 93 (v:=.bool true) rfl rfl (by kernel_rfl) (by kernel_rfl) (by kernel_rfl) (fun _ _ _ h=>h) (Or.inl ⟨by rfl,fun W' hw=>by obtain⟨hw0,hw1,hw2,hw3⟩:=hw;go_simp⟩) hHeld ?_
    simp only[Act.put,List.setIfInBounds_toArray,List.set_cons_succ,List.set_cons_zero]
    refine heldD (i:=8) 94 (v:=.agg #[.map (some B),.map (some B2)]) rfl rfl (by kernel_rfl) (by kernel_rfl) (by kernel_rfl) (fun _ _ _ h=>h) (Or.inl ⟨by simp[Region.wanted,yielded],fun W' hw=>by obtain⟨hw0,hw1,hw2,hw3⟩:=hw;go_simp⟩) hHeld ?_
    simp only[Act.put,List.setIfInBounds_toArray,List.set_cons_succ,List.set_cons_zero]
    refine heldD (i:=9) 95 (v:=.pointer (some ⟨b,off,none⟩)) rfl rfl (by kernel_rfl) (by kernel_rfl) (by kernel_rfl) (fun _ _ _ h=>h) (Or.inl ⟨by simp[Region.wanted,yielded],fun W' hw=>by obtain⟨hw0,hw1,hw2,hw3⟩:=hw;go_simp⟩) hHeld ?_
    simp only[Act.put,List.setIfInBounds_toArray,List.set_cons_succ,List.set_cons_zero]
    refine heldD (i:=10) 96 (v:=.pointer (some ⟨b,off,none⟩)) rfl rfl (by kernel_rfl) (by kernel_rfl) (by kernel_rfl) (fun _ _ _ h=>h) (Or.inl ⟨by simp[Region.wanted,yielded],fun W' hw=>by obtain⟨hw0,hw1,hw2,hw3⟩:=hw;go_simp⟩) hHeld ?_
    simp only[Act.put,List.setIfInBounds_toArray,List.set_cons_succ,List.set_cons_zero]
    refine heldD (i:=11) 97 (v:=.pointer (some ⟨b,off+13,none⟩)) rfl rfl (by kernel_rfl) (by kernel_rfl) (by kernel_rfl) (fun _ _ _ h=>h) (Or.inl ⟨by simp[Region.wanted,yielded],fun W' hw=>by obtain⟨hw0,hw1,hw2,hw3⟩:=hw;go_simp⟩) hHeld ?_
    simp only[Act.put,List.setIfInBounds_toArray,List.set_cons_succ,List.set_cons_zero]
    refine heldD (i:=12) 98 (v:=.slice ao an ac) rfl rfl (by kernel_rfl) (by kernel_rfl) (by kernel_rfl) (fun _ _ _ h=>h) (Or.inl ⟨by simp[Region.wanted,yielded],fun W' hw=>by obtain⟨hw0,hw1,hw2,hw3⟩:=hw;go_simp⟩) hHeld ?_
    simp only[Act.put,List.setIfInBounds_toArray,List.set_cons_succ,List.set_cons_zero]
    refine heldD (i:=13) 99 (v:=.int .i64 (d:Int)) rfl rfl (by kernel_rfl) (by kernel_rfl) (by kernel_rfl) (fun _ _ _ h=>h) (Or.inl ⟨by simp[Region.wanted,yielded],fun W' hw=>by obtain⟨hw0,hw1,hw2,hw3⟩:=hw;go_simp⟩) hHeld ?_
    simp only[Act.put,List.setIfInBounds_toArray,List.set_cons_succ,List.set_cons_zero]
    refine heldD (i:=14) 100 (v:=.int .i64 ((d+1:Nat):Int)) rfl rfl (by kernel_rfl) (by kernel_rfl) (by kernel_rfl) (fun _ _ _ h=>h) (Or.inl ⟨by simp[Region.wanted,yielded],fun W' hw=>by obtain⟨hw0,hw1,hw2,hw3⟩:=hw;go_simp⟩) hHeld ?_
    simp only[Act.put,List.setIfInBounds_toArray,List.set_cons_succ,List.set_cons_zero]
    have hba:=HLA.out w2 K' K2 (Gr2.below HW1.out H2.out.2.2.1 HHB.out.1 HHB.out.2) H2.out.1 H2.out.2.1 (H2.out.2.2.2 HC1.out) HI2.out
    rw[dB_true HCA.out] at hba
    refine wpAnyH_ready (rs:=[15]) (by kernel_rfl) (by simp) ?_
    refine AllReadyH.cons rfl (fun KK hK=> ?_) AllReadyH.nil
    go_simp
    go_at_call 82
    refine(hba).mono ?_
    rintro x w3 ⟨K3,K23,rfl,g1,g2,g3,g4,g5⟩
    have hgg:Gr2 B B2 W1 w3:=H2.out.2.2.1.trans g3
    have H3:Hid (SetP w3 B K3∧SetP w3 B2 K23∧Gr2 B B2 W1 w3∧(∀p∈K23,p∈K2∨d+1≤p.2.2.2)∧((∀x∈a,DpS x)→InvP w0 K3 0∧InvS w0 K23 (d+1))):=⟨g1,g2,hgg,g4,g5⟩
    refine hK.out _ _ ⟨(World.cell?_of_block (a:=⟨W.heap.size,0,none⟩) (hgg.block W.heap.size hlk (by omega) (by omega))).trans l0,(World.cell?_of_block (a:=⟨W.heap.size,1,none⟩) (hgg.block W.heap.size hlk (by omega) (by omega))).trans l1,(World.cell?_of_block (a:=⟨b,off+13,none⟩) (hgg.block b hbl (by omega) (by omega))).trans c13,(World.cell?_of_block (a:=⟨b,off+14,none⟩) (hgg.block b hbl (by omega) (by omega))).trans c14⟩ ?_
    clear g1 g2 g3 g4 g5 hgg hba
    clear hK KK hHeld
    intro hHeld
    try simp only[Act.put,List.setIfInBounds_toArray,List.set_cons_succ,List.set_cons_zero]
    refine heldD (i:=16) 102 (v:=.bool true) rfl rfl (by kernel_rfl) (by kernel_rfl) (by kernel_rfl) (fun _ _ _ h=>h) (Or.inl ⟨by rfl,fun W' hw=>by obtain⟨hw0,hw1,hw2,hw3⟩:=hw;go_simp⟩) hHeld ?_
    simp only[Act.put,List.setIfInBounds_toArray,List.set_cons_succ,List.set_cons_zero]
    refine heldD (i:=17) 103 (v:=.bool true) rfl rfl (by kernel_rfl) (by kernel_rfl) (by kernel_rfl) (fun _ _ _ h=>h) (Or.inl ⟨by rfl,fun W' hw=>by obtain⟨hw0,hw1,hw2,hw3⟩:=hw;go_simp⟩) hHeld ?_
    simp only[Act.put,List.setIfInBounds_toArray,List.set_cons_succ,List.set_cons_zero]
    refine heldD (i:=18) 104 (v:=.agg #[.map (some B),.map (some B2)]) rfl rfl (by kernel_rfl) (by kernel_rfl) (by kernel_rfl) (fun _ _ _ h=>h) (Or.inl ⟨by simp[Region.wanted,yielded],fun W' hw=>by obtain⟨hw0,hw1,hw2,hw3⟩:=hw;go_simp⟩) hHeld ?_
    simp only[Act.put,List.setIfInBounds_toArray,List.set_cons_succ,List.set_cons_zero]
    refine heldD (i:=19) 105 (v:=.pointer (some ⟨b,off,none⟩)) rfl rfl (by kernel_rfl) (by kernel_rfl) (by kernel_rfl) (fun _ _ _ h=>h) (Or.inl ⟨by simp[Region.wanted,yielded],fun W' hw=>by obtain⟨hw0,hw1,hw2,hw3⟩:=hw;go_simp⟩) hHeld ?_
    simp only[Act.put,List.setIfInBounds_toArray,List.set_cons_succ,List.set_cons_zero]
    refine heldD (i:=20) 106 (v:=.pointer (some ⟨b,off,none⟩)) rfl rfl (by kernel_rfl) (by kernel_rfl) (by kernel_rfl) (fun _ _ _ h=>h) (Or.inl ⟨by simp[Region.wanted,yielded],fun W' hw=>by obtain⟨hw0,hw1,hw2,hw3⟩:=hw;go_simp⟩) hHeld ?_
    simp only[Act.put,List.setIfInBounds_toArray,List.set_cons_succ,List.set_cons_zero]
    refine heldD (i:=21) 107 (v:=.pointer (some ⟨b,off+14,none⟩)) rfl rfl (by kernel_rfl) (by kernel_rfl) (by kernel_rfl) (fun _ _ _ h=>h) (Or.inl ⟨by simp[Region.wanted,yielded],fun W' hw=>by obtain⟨hw0,hw1,hw2,hw3⟩:=hw;go_simp⟩) hHeld ?_
    simp only[Act.put,List.setIfInBounds_toArray,List.set_cons_succ,List.set_cons_zero]
    refine heldD (i:=22) 108 (v:=.slice bo bn bc) rfl rfl (by kernel_rfl) (by kernel_rfl) (by kernel_rfl) (fun _ _ _ h=>h) (Or.inl ⟨by simp[Region.wanted,yielded],fun W' hw=>by obtain⟨hw0,hw1,hw2,hw3⟩:=hw;go_simp⟩) hHeld ?_
    simp only[Act.put,List.setIfInBounds_toArray,List.set_cons_succ,List.set_cons_zero]
    refine heldD (i:=23) 109 (v:=.int .i64 (d:Int)) rfl rfl (by kernel_rfl) (by kernel_rfl) (by kernel_rfl) (fun _ _ _ h=>h) (Or.inl ⟨by simp[Region.wanted,yielded],fun W' hw=>by obtain⟨hw0,hw1,hw2,hw3⟩:=hw;go_simp⟩) hHeld ?_
    simp only[Act.put,List.setIfInBounds_toArray,List.set_cons_succ,List.set_cons_zero]
    refine heldD (i:=24) 110 (v:=.int .i64 ((d+1:Nat):Int)) rfl rfl (by kernel_rfl) (by kernel_rfl) (by kernel_rfl) (fun _ _ _ h=>h) (Or.inl ⟨by simp[Region.wanted,yielded],fun W' hw=>by obtain⟨hw0,hw1,hw2,hw3⟩:=hw;go_simp⟩) hHeld ?_
    simp only[Act.put,List.setIfInBounds_toArray,List.set_cons_succ,List.set_cons_zero]
    obtain⟨rB,hrB⟩:∃rB,dB (∀x∈c,DpS x)=rB:=⟨_,rfl⟩
    have HRB:Hid (dB (∀x∈c,DpS x)=rB):=hrB
    have hba:=HLC.out w3 K3 K23 (Gr2.below HW1.out H3.out.2.2.1 HHB.out.1 HHB.out.2) H3.out.1 H3.out.2.1 (H3.out.2.2.2.2 HCA.out).1 (H3.out.2.2.2.2 HCA.out).2
    rw[hrB] at hba
    refine wpAnyH_ready (rs:=[25]) (by kernel_rfl) (by simp) ?_
    refine AllReadyH.cons rfl (fun KK hK=> ?_) AllReadyH.nil
    go_simp
    go_at_call 82
    refine(hba).mono ?_
    rintro x w4 ⟨K4,K24,rfl,g1,g2,g3,g4,g5⟩
    have hgg:Gr2 B B2 W1 w4:=H3.out.2.2.1.trans g3
    have H4:Hid (SetP w4 B K4∧SetP w4 B2 K24∧Gr2 B B2 W1 w4∧(∀p∈K24,p∈K23∨d+1≤p.2.2.2)∧((∀x∈c,DpS x)→InvP w0 K4 0∧InvS w0 K24 (d+1))):=⟨g1,g2,hgg,g4,g5⟩
    refine hK.out _ _ ⟨(World.cell?_of_block (a:=⟨W.heap.size,0,none⟩) (hgg.block W.heap.size hlk (by omega) (by omega))).trans l0,(World.cell?_of_block (a:=⟨W.heap.size,1,none⟩) (hgg.block W.heap.size hlk (by omega) (by omega))).trans l1,(World.cell?_of_block (a:=⟨b,off+13,none⟩) (hgg.block b hbl (by omega) (by omega))).trans c13,(World.cell?_of_block (a:=⟨b,off+14,none⟩) (hgg.block b hbl (by omega) (by omega))).trans c14⟩ ?_
    clear g1 g2 g3 g4 g5 hgg hba
    clear hK KK hHeld
    intro hHeld
    try simp only[Act.put,List.setIfInBounds_toArray,List.set_cons_succ,List.set_cons_zero]
    refine heldD (i:=26) 112 (v:=.bool rB) rfl rfl (by kernel_rfl) (by kernel_rfl) (by kernel_rfl) (fun _ _ _ h=>h) (Or.inl ⟨by rfl,fun W' hw=>by obtain⟨hw0,hw1,hw2,hw3⟩:=hw;go_simp⟩) hHeld ?_
    simp only[Act.put,List.setIfInBounds_toArray,List.set_cons_succ,List.set_cons_zero]
    refine heldD (i:=27) 6 (v:=.bool rB) rfl rfl (by kernel_rfl) (by kernel_rfl) (by kernel_rfl) (fun _ _ _ h=>h) (Or.inl ⟨by rfl,fun W' hw=>by obtain⟨hw0,hw1,hw2,hw3⟩:=hw;go_simp⟩) hHeld ?_
    simp only[Act.put,List.setIfInBounds_toArray,List.set_cons_succ,List.set_cons_zero]
    refine wpAnyH_done (by kernel_rfl) ?_ _
    clear hrB
    go_wp2
    refine bodyPost_ret (v:=.bool rB) (by simp[results,Tryz.results118,go_sem]) rfl ?_
    have hdd:dB (DpS (.mk k p s o dd l e a c))=rB:=by
     rw[←HRB.out]
     by_cases hc:∀x∈c,DpS x
     ·rw[dB_true hc,dB_true (dps_iff.2 ⟨HC1.out,HCA.out,hc⟩)]
     ·rw[dB_false hc,dB_false fun h=>hc (dps_iff.1 h).2.2]
    refine⟨K4,K24,congrArg (fun b=>Ending.returned (Value.bool b)) hdd.symm,H4.out.1,H4.out.2.1,HGW.out.trans H4.out.2.2.1,fun p hp=> ?_,fun h=>H4.out.2.2.2.2 (dps_iff.1 h).2.2⟩
    rcases H4.out.2.2.2.1 p hp with h | h
    ·exact H3.out.2.2.2.1 p h
    ·exact .inr h
theorem lb_all {w0:World}{B B2:Nat}(hB:w0.heap.size≤B)(hB2:w0.heap.size≤B2)(hne:B2≠B)(hlv:LevAt w0 w0.heap.size):∀m d,d+m=11→∀a,LbC w0 B B2 d a:=by
 intro m
 induction m with
 | zero=>intro d h;exact lb_step hB hB2 hne (ls_step hB hB2 hne (by omega) hlv fun a ha=>by
  rcases ha with ha | rfl
  ·omega
  ·exact lb_nil)
 | succ m ih=>intro d h;exact lb_step hB hB2 hne (ls_step hB hB2 hne (by omega) hlv fun a _=>ih (d+1) (by omega) a)
theorem parUC {w:World}{S:Nat→Prop}{q:Prm}{z0:ByteArray}{z1:Int}{z2:Option Addr}{m2 d2:Nat}(h:PmIs w S q [.string z0,.int .i64 z1,.slice z2 m2 d2])(hX:Par.PmX q):
 Calls Tryz.prog 80 #[.agg #[.string z0,.int .i64 z1,.slice z2 m2 d2]] w fun x w'=>x=.returned (.bool false)∧Below w.heap.size w w':=by
 obtain⟨lv,e1,hz,hl⟩:=h
 cases e1
 obtain⟨w0,hw0⟩:∃w0,w0=w.alloc (.cells #[.string q.name,.int .i64 q.type,.slice z2 m2 d2] 85):=⟨_,rfl⟩
 have hb0:Below w.heap.size w w0:=by rw[hw0];exact(Below.refl _ _).alloc (Nat.le_refl _) _
 have hk0:w0.heap[w.heap.size]? =some (.cells #[.string q.name,.int .i64 q.type,.slice z2 m2 d2] 85 (0,0)):=by rw[hw0];exact heap_at_alloc _ _ _ rfl
 obtain⟨⟨k0,k1,k2⟩,_⟩:=blk3 hk0
 have hlt:=lt_of_block hk0
 have H1:=nameT q.name w0 hz hX.1
 have H2:=hasTC q.type hX.2.1 w0
 have H3:=labFT (hl.keeps (Keeps.of_below hb0)) hX.2.2
 have HB:Hid (Below w.heap.size w w0):=hb0
 clear hX hl hz hk0 hb0
 go_enter Tryz.func80,Tryz.ntmps80
 go_wp2_with fail
 rw[←hw0]
 clear hw0
 refine H1.mono ?_
 rintro x w1 ⟨rfl,hw⟩
 have hws:=hw.symm;subst hws
 go_wp2_with fail
 refine H2.mono ?_
 rintro x w1 ⟨rfl,hw⟩
 have hws:=hw.symm;subst hws
 go_wp2_with fail
 refine H3.mono ?_
 rintro x w1 ⟨rfl,hb1⟩
 have HB1:Hid (Below w.heap.size w w1):=HB.out.trans (hb1.mono HB.out.size)
 clear hb1 H1 H2 H3
 go_wp2
 go_ret
 exact⟨rfl,HB1.out⟩
theorem resFC {w:World}{S:Nat→Prop}{q:Prm}{z2:Option Addr}{m2 d2:Nat}(hl:LabV w S (.slice z2 m2 d2) q.lab)(hX:q.name=ba []∧((q.type=0∧q.lab=[])∨((q.type=1∨q.type=2)∧Par.labOK q.lab=true))):
 Calls Tryz.prog 81 #[.agg #[.string q.name,.int .i64 q.type,.slice z2 m2 d2]] w fun x w'=>x=.returned (.bool true)∧Below w.heap.size w w':=by
 obtain⟨nm,ty,lab⟩:=q
 obtain⟨h1,h2⟩:=hX
 simp only at h1 h2 hl⊢
 subst h1
 show Calls _ _ #[.agg #[.string ⟨#[]⟩,.int .i64 ty,.slice z2 m2 d2]] _ _
 obtain⟨w0,hw0⟩:∃w0,w0=w.alloc (.cells #[.string ⟨#[]⟩,.int .i64 ty,.slice z2 m2 d2] 85):=⟨_,rfl⟩
 have hb0:Below w.heap.size w w0:=by rw[hw0];exact(Below.refl _ _).alloc (Nat.le_refl _) _
 have hk0:w0.heap[w.heap.size]? =some (.cells #[.string ⟨#[]⟩,.int .i64 ty,.slice z2 m2 d2] 85 (0,0)):=by rw[hw0];exact heap_at_alloc _ _ _ rfl
 obtain⟨⟨k0,k1,k2⟩,_⟩:=blk3 hk0
 have hlt:=lt_of_block hk0
 have HB:Hid (Below w.heap.size w w0):=hb0
 rcases h2 with⟨rfl,rfl⟩|⟨ht,hlb⟩
 ·obtain⟨q5,e5,h6⟩:=hl.val
  simp only[List.length_nil,Value.slice.injEq] at h6
  obtain⟨rfl,rfl,rfl⟩:=h6
  clear hl hb0 hk0
  go_enter Tryz.func81,Tryz.ntmps81
  go_wp2
  rw[←hw0]
  go_ret
  exact⟨rfl,HB.out⟩
 ·have H2:=hasTC ty ht w0
  have H3:=labFT (hl.keeps (Keeps.of_below hb0)) hlb
  have t0:(ty==0)=false:=by simp;omega
  clear hl hb0 hk0 ht hlb
  go_enter Tryz.func81,Tryz.ntmps81
  go_wp2_with fail
  rw[←hw0]
  clear hw0
  refine H2.mono ?_
  rintro x w1 ⟨rfl,hw⟩
  have hws:=hw.symm;subst hws
  go_wp2_with fail
  refine H3.mono ?_
  rintro x w1 ⟨rfl,hb1⟩
  have HB1:Hid (Below w.heap.size w w1):=HB.out.trans (hb1.mono HB.out.size)
  clear hb1 H2 H3
  go_wp2
  go_ret
  exact⟨rfl,HB1.out⟩
theorem parsC {w:World}{S:Nat→Prop}{ao:Option Addr}{n c:Nat}{a:List Prm}(h:RwV PmIs w S 3 (.slice ao n c) a)(hX:∀q∈a,Par.PmX q):
 Calls Tryz.prog 79 #[.slice ao n c,.func (.func 80) #[] #[]] w fun x w'=>x=.returned (.bool false)∧Below w.heap.size w w':=by
 have eg:∀args w,(callFunc 80 args).run Tryz.prog w=.ok (.enter 80 args) w:=enters_of Tryz.func80 (by kernel_rfl) rfl
 obtain⟨css,⟨ao',b,off,c',hv,hr⟩,hl,hk⟩:=h
 simp only[Value.slice.injEq] at hv
 obtain⟨rfl,hn,rfl⟩:=hv
 have HI:Calls Tryz.prog 116 #[.slice ao n c,.func (.func 80) #[] #[]] w fun x w'=>x=.returned (.int .i64 (-1))∧Below w.heap.size w w':=by
  have HR:Hid (RowAt w S 3 ao b off css.length c css):=hr
  have HK:Hid (∀i (h:i<a.length) (h':i<css.length),PmIs w S a[i] css[i]):=hk
  have HN:Hid (n=css.length∧css.length=a.length):=⟨hn,hl⟩
  have HX:Hid (∀q∈a,Par.PmX q):=hX
  have hcap:=hr.cap
  have hmx:=hr.mx
  rw[←hn] at hcap
  unfold maxLen at hmx
  clear hn hX hl hr hk
  go_enter Tryz.func116,Tryz.ntmps116
  go_wp2
  go_loopw [8] (fun i wr=>∃k:Nat,k≤n∧i=.int .i64 k∧Hid (Below w.heap.size w wr)) (fun i _=>n - (intOf i).toNat)
  case atStart=>exact⟨0,Nat.zero_le _,rfl,Below.refl _ _⟩
  case round=>
   obtain⟨k,hk,rfl,HB⟩:=hrel
   by_cases hlt:k<n
   ·have hkc:k<css.length:=by have:=HN.out.1;omega
    have hka:k<a.length:=by have:=HN.out.2;omega
    have hao:=HR.out.adr (by omega)
    subst hao
    obtain⟨lv,e1,hz,hlb⟩:=HK.out k hka hkc
    obtain⟨lo,lc,rfl⟩:=hlb.val
    have hbl:=HR.out.lt (by omega)
    have hbl2:b<wr.heap.size:=Nat.lt_of_lt_of_le hbl HB.out.size
    have fc:∀j u,css[k][j]? =some u→wr.cell? ⟨b,off+k*3+j,none⟩=some u:=fun j u hu=>(HB.out.cell (p:=⟨b,off+k*3+j,none⟩) hbl).trans (HR.out.cell k hkc j u hu)
    rw[e1] at fc
    have c0:wr.cell? ⟨b,off+k*3,none⟩=_:=fc 0 _ rfl
    have c1:=fc 1 _ rfl
    have c2:=fc 2 _ rfl
    have hcall:=parUC (w:=wr) (S:=S) (q:=a[k]) (z0:=(a[k]).name) (z1:=(a[k]).type) (z2:=lo) (m2:=(a[k]).lab.length) (d2:=lc) ⟨_,rfl,hz,hlb.keeps (Keeps.of_below HB.out)⟩ (HX.out _ (List.getElem_mem hka))
    obtain⟨nm,hnm⟩:∃nm,nm=(a[k]).name:=⟨_,rfl⟩
    obtain⟨ty,hty⟩:∃ty,ty=(a[k]).type:=⟨_,rfl⟩
    obtain⟨ln,hln⟩:∃ln,ln=(a[k]).lab.length:=⟨_,rfl⟩
    rw[←hnm,←hty,←hln] at hcall
    rw[←hnm] at c0
    rw[←hty] at c1
    rw[←hln] at c2
    clear fc e1 hz hlb hnm hty hln
    go_wp2_with fail
    refine hcall.mono ?_
    rintro e w1 ⟨rfl,hb1⟩
    have HB1:Hid (Below w.heap.size w w1):=HB.out.trans (hb1.mono HB.out.size)
    clear hb1 hcall
    go_wp2
    go_roundw
    case rel=>exact⟨k+1,by omega,by go_num,HB1⟩
    case measure=>simp[intOf];omega
   ·go_wp2
    go_ret
    exact⟨rfl,HB.out⟩
 clear eg hr hl hk hX hn
 go_enter Tryz.func79,Tryz.ntmps79
 go_wp2_with fail
 refine HI.mono ?_
 rintro x w1 ⟨rfl,hb1⟩
 go_wp2
 go_ret
 exact⟨rfl,hb1⟩
theorem strs_at {w:World}{S:Nat→Prop}{v:Value}{l:List ByteArray}(h:StrsV w S v l):∃ao b off c,v=.slice ao l.length c∧l.length≤maxLen∧Strs w ao b off l:=by
 obtain⟨⟨ao,b,off,c,hv,hr⟩,hz⟩:=h
 have hl:(strCs l).length=l.length:=by simp[strCs]
 rw[hl] at hv hr
 have hc:=hr.cap
 refine⟨ao,b,off,c,hv,Nat.le_trans hc hr.mx,⟨fun hp=>hr.adr (by omega),fun k hk=> ?_,fun hp=>hr.lt (by omega)⟩⟩
 have:=hr.cell k (by omega) 0 (.string l[k]) (by simp[strCs])
 simpa using this
theorem namesT {w:World}{S:Nat→Prop}{ao:Option Addr}{n c:Nat}{l:List ByteArray}(h:StrsV w S (.slice ao n c) l)(hX:∀s∈l,Par.nameOK s=true)(h6:l.length≤1000):Calls Tryz.prog 46 #[.slice ao n c] w fun x w'=>x=.returned (.bool true)∧Below w.heap.size w w':=by
 obtain⟨ao',b,off,c',e1,_,hs⟩:=strs_at h
 simp only[Value.slice.injEq] at e1
 obtain⟨rfl,rfl,rfl⟩:=e1
 have:=namesC ao b off l.length c l w rfl h6 hs h.sz
 rw[show Par.namesOK l=true by unfold Par.namesOK;exact List.all_eq_true.2 hX] at this
 exact this
end Go.Proofs.YtepkhlpjgnckkaaGreatDoor
