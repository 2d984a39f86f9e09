/- tree.Check of a program that was read. tree.Check of a program that was read, whole. scope: program. -/
import Derived.Test.YtepkhlpjgnckkaaGreatDoorZB7
namespace Go.Proofs.YtepkhlpjgnckkaaGreatDoor
set_option maxRecDepth 100000
set_option maxHeartbeats 8000000
open Go.RowKit
open Par (Tok Po Tr nx atP isT ba Res Stm Prm Chn Prc Prg)
def DpPc (q:Prc):Prop:=∀x∈q.body,DpS x
def DpG (p:Prg):Prop:=∀q∈p.procs,DpPc q
def PrP (w0:World)(B B2:Nat)(q:Prc)(W:World)(x:Ending)(W':World):Prop:=∃K' K2',x=.returned (.int .i64 (if dB (DpPc q)=true then 0 else 4))∧SetP W' B K'∧SetP W' B2 K2'∧Gr2 B B2 W W'∧(DpPc q→InvP w0 K' 0∧InvS w0 K2' 0)
theorem pc_open {w:World}{S:Nat→Prop}{q:Prc}{cs:List Value}(h:PcIs w S q cs):∃(po:Option Addr) (pc:Nat) (lo:Option Addr) (lc:Nat) (bo:Option Addr) (bc:Nat) (fo:Option Addr) (fc:Nat) (yo:Option Addr) (yc:Nat),cs=[.int .i64 q.at_,.string q.name,.slice po q.params.length pc,.string q.result.name,.int .i64 q.result.type,.slice lo q.result.lab.length lc,.slice bo q.begin_.length bc,.slice fo q.for_.length fc,.slice yo q.body.length yc]∧q.name.size≤maxLen∧RwV PmIs w S 3 (.slice po q.params.length pc) q.params∧LabV w S (.slice lo q.result.lab.length lc) q.result.lab∧LabV w S (.slice bo q.begin_.length bc) q.begin_∧StrsV w S (.slice fo q.for_.length fc) q.for_∧RwV StIs w S 15 (.slice yo q.body.length yc) q.body:=by
 obtain⟨pv,rl,bv,fv,yv,h1,h2,h3,h4,h5,h6,h7,h8⟩:=h
 obtain⟨po,pc,rfl⟩:=h4.val
 obtain⟨lo,lc,rfl⟩:=h5.val
 obtain⟨bo,bc,rfl⟩:=h6.val
 obtain⟨fo,b9,o9,fc,rfl,_⟩:=strs_at h7
 obtain⟨yo,yc,rfl⟩:=h8.val
 exact⟨po,pc,lo,lc,bo,bc,fo,fc,yo,yc,h1,h2,h4,h5,h6,h7,h8⟩
theorem procK {w0:World}{B B2:Nat}(hB:w0.heap.size≤B)(hB2:w0.heap.size≤B2)(hne:B2≠B)(hlv:LevAt w0 w0.heap.size){W:World}{b off:Nat}{cs:List Value}{K K2:List PK}{q:Prc}(hW:Below w0.heap.size w0 W)(hS:SetP W B K)(hS2:SetP W B2 K2)(hI:InvP w0 K 0)(hI2:InvS w0 K2 0)(hc:ExAt w0 b off cs)(ht:PcIs w0 (fun b=>b<w0.heap.size) q cs)(hX:Par.PcX q):
 Calls Tryz.prog 51 #[.agg #[.map (some B),.map (some B2)],.pointer (some ⟨b,off,none⟩)] W (PrP w0 B B2 q W):=by
 obtain⟨po,pc,lo,lc,bo,bc,fo,fc,yo,yc,rfl,hnz,hpar,hlab,hbeg,hfor,hbody⟩:=pc_open ht
 have hcW:=hc.keeps hW.size (hW.block _ hc.lt)
 have hlt:=hcW.lt
 have hlB:=hS.lt
 have hlB2:=hS2.lt
 obtain⟨W0,hW0⟩:∃W0,W0=W.alloc (.cells #[.map (some B),.map (some B2)] 124):=⟨_,rfl⟩
 have hb0:Below W.heap.size W W0:=by rw[hW0];exact(Below.refl _ _).alloc (Nat.le_refl _) _
 have hk0:W0.heap[W.heap.size]? =some (.cells #[.map (some B),.map (some B2)] 124 (0,0)):=by rw[hW0];exact heap_at_alloc _ _ _ rfl
 have hbw:Below w0.heap.size w0 W0:=hW.trans (hb0.mono hW.size)
 obtain⟨pn,hpn⟩:∃pn,pn=q.params.length:=⟨_,rfl⟩
 obtain⟨fn,hfn⟩:∃fn,fn=q.for_.length:=⟨_,rfl⟩
 obtain⟨yn,hyn⟩:∃yn,yn=q.body.length:=⟨_,rfl⟩
 obtain⟨ln,hln⟩:∃ln,ln=q.result.lab.length:=⟨_,rfl⟩
 obtain⟨bn,hbn⟩:∃bn,bn=q.begin_.length:=⟨_,rfl⟩
 rw[←hpn] at hcW hpar
 rw[←hfn] at hcW hfor
 rw[←hyn] at hcW hbody
 rw[←hln] at hcW hlab
 rw[←hbn] at hcW hbeg
 have HNW:∀W',Below W0.heap.size W0 W'→Below w0.heap.size w0 W':=fun W' h=>hbw.trans (h.mono hbw.size)
 have hp4:decide ((4:Int)<(pn:Int))=false:=by have:=hX.pars;simp;omega
 have hf6:decide ((6:Int)<(fn:Int))=false:=by have:=hX.fors;simp;omega
 have hy20:decide ((20:Int)<(yn:Int))=false:=by have:=hX.body.1;simp;omega
 have H1:=nameT q.name W0 hnz hX.name
 have H2:=namesT (hfor.keeps (Keeps.of_below hbw)) hX.fo (by have:=hX.fors;omega)
 have H3:Hid (∀W',Below W0.heap.size W0 W'→Calls Tryz.prog 79 #[.slice po pn pc,.func (.func 80) #[] #[]] W' fun x w'=>x=.returned (.bool false)∧Below W'.heap.size W' w'):=fun W' h=>parsC (hpar.keeps (fun g=>isElM.keeps g (Keeps.of_below (HNW W' h))) (Keeps.of_below (HNW W' h))) hX.par
 have HRS:Hid (∀W',Below W0.heap.size W0 W'→Calls Tryz.prog 81 #[.agg #[.string q.result.name,.int .i64 q.result.type,.slice lo ln lc]] W' fun x w'=>x=.returned (.bool true)∧Below W'.heap.size W' w'):=fun W' h=>resFC (hlab.keeps (Keeps.of_below (HNW W' h))) hX.res
 have HBG:Hid (∀W',Below W0.heap.size W0 W'→Calls Tryz.prog 49 #[.slice bo bn bc] W' fun x w'=>x=.returned (.bool true)∧Below W'.heap.size W' w'):=fun W' h=>labFT (hbeg.keeps (Keeps.of_below (HNW W' h))) hX.beg
 obtain⟨rb,hrb⟩:∃rb,dB (∀x∈q.body,DpS x)=rb:=⟨_,rfl⟩
 have HBK:Hid (∀W',Below W0.heap.size W0 W'→Calls Tryz.prog 82 #[.agg #[.map (some B),.map (some B2)],.slice yo yn yc,.int .i64 0] W' fun x W''=>∃K' K2',x=.returned (.bool rb)∧SetP W'' B K'∧SetP W'' B2 K2'∧Gr2 B B2 W' W''∧(rb=true→InvP w0 K' 0∧InvS w0 K2' 0)):=fun W' h=>by
  have h9:=lb_all hB hB2 hne hlv 11 0 rfl q.body W' yo yc K K2 (HNW W' h) (set_low hS (hb0.trans (h.mono hb0.size))) (set_low hS2 (hb0.trans (h.mono hb0.size))) hI hI2 (by rw[←hyn];exact hbody) hX.body.2 hX.body.1
  rw[hrb,←hyn] at h9
  refine Calls.mono h9 ?_
  rintro x W'' ⟨K',K2',e1,e2,e3,e4,_,e6⟩
  exact⟨K',K2',e1,e2,e3,e4,fun h8=>e6 (by
   apply Classical.byContradiction
   intro h7
   rw[dB_false h7,h8] at hrb
   cases hrb)⟩
 have HRB:Hid (dB (DpPc q)=rb):=hrb
 have HCL:Hid (∀W',Below W0.heap.size W0 W'→(W'.cell? ⟨W.heap.size,0,none⟩=some (.map (some B))∧W'.cell? ⟨W.heap.size,1,none⟩=some (.map (some B2)))∧W'.cell? ⟨b,off+3,none⟩=some (.string q.result.name)∧W'.cell? ⟨b,off+3+1,none⟩=some (.int .i64 q.result.type)∧W'.cell? ⟨b,off+3+2,none⟩=some (.slice lo ln lc)∧W'.cell? ⟨b,off+6,none⟩=some (.slice bo bn bc)∧W'.cell? ⟨b,off+8,none⟩=some (.slice yo yn yc)):=fun W' h=>by
  have hk':=(h.block _ (lt_of_block hk0)).trans hk0
  have hc':=hcW.keeps (w':=W') (hb0.trans (h.mono hb0.size)).size ((hb0.trans (h.mono hb0.size)).block _ hlt)
  exact⟨blkL hk',hc'.cell 3 _ rfl,hc'.cell 4 _ rfl,hc'.cell 5 _ rfl,hc'.cell 6 _ rfl,hc'.cell 8 _ rfl⟩
 have HB0:Hid (Below W.heap.size W W0):=hb0
 have hlk0:=lt_of_block hk0
 have hbB:b≠B:=by have:=hc.lt;omega
 have hbB2:b≠B2:=by have:=hc.lt;omega
 have c1:W.cell? ⟨b,off+1,none⟩=some (.string q.name):=hcW.cell 1 _ rfl
 have c2:W.cell? ⟨b,off+2,none⟩=some (.slice po pn pc):=hcW.cell 2 _ rfl
 have c7:W.cell? ⟨b,off+7,none⟩=some (.slice fo fn fc):=hcW.cell 7 _ rfl
 have c8:W.cell? ⟨b,off+8,none⟩=some (.slice yo yn yc):=hcW.cell 8 _ rfl
 have hcW0:=hcW.keeps hb0.size (hb0.block _ hlt)
 have d2:W0.cell? ⟨b,off+2,none⟩=some (.slice po pn pc):=hcW0.cell 2 _ rfl
 have d7:W0.cell? ⟨b,off+7,none⟩=some (.slice fo fn fc):=hcW0.cell 7 _ rfl
 have hlt0:=hcW0.lt
 obtain⟨nm,hnm⟩:∃nm,nm=q.name:=⟨_,rfl⟩
 obtain⟨rnm,hrnm⟩:∃rnm,rnm=q.result.name:=⟨_,rfl⟩
 obtain⟨rty,hrty⟩:∃rty,rty=q.result.type:=⟨_,rfl⟩
 rw[←hnm] at c1 H1
 rw[←hrnm,←hrty] at HRS HCL
 have HP:Hid (∀W',Below W0.heap.size W0 W'→∀W'' K' K2',SetP W'' B K'→SetP W'' B2 K2'→Gr2 B B2 W' W''→(rb=true→InvP w0 K' 0∧InvS w0 K2' 0)→∀z:Int,z=(if rb=true then 0 else 4)→PrP w0 B B2 q W (.returned (.int .i64 z)) W''):=by
  intro W' h W'' K' K2' e1 e2 e3 e4 z hz
  refine⟨K',K2',by rw[hz,HRB.out],e1,e2,(Gr2.of_below (hb0.trans (h.mono hb0.size))).trans e3,fun hd=>e4 ?_⟩
  rw[←HRB.out];exact dB_true hd
 clear hpn hfn hyn hln hbn hnm hrnm hrty hX hpar hlab hbeg hfor hbody hc hcW hcW0 ht hW hS hS2 hI hI2 hlv hb0 hk0 hbw HNW hnz hB hB2 hrb
 go_enter Tryz.func51,Tryz.ntmps51
 go_wp2_with fail
 rw[←hW0]
 clear hW0 c1 c2 c7 c8
 refine H1.mono ?_
 rintro x w1 ⟨rfl,hw⟩
 have hws:=hw.symm;subst hws
 go_wp2_with fail
 refine H2.mono ?_
 rintro x W1 ⟨rfl,hb1⟩
 have HB1:Hid (Below W0.heap.size W0 W1):=hb1
 have H31:=H3.out W1 hb1
 have d2':W1.cell? ⟨b,off+2,none⟩=some (.slice po pn pc):=((bcell hb1).1 b (off+2) hlt0).trans d2
 have hlt1:b<W1.heap.size:=Nat.lt_of_lt_of_le hlt0 hb1.size
 clear hb1 H1 H2 d2 d7
 go_wp2_with fail
 refine H31.mono ?_
 rintro x W2 ⟨rfl,hb2⟩
 have HB2:Hid (Below W0.heap.size W0 W2):=HB1.out.trans (hb2.mono HB1.out.size)
 obtain⟨⟨l0,l1⟩,t3,t4,t5,t6,t8⟩:=HCL.out W2 HB2.out
 have hlt2:b<W2.heap.size:=Nat.lt_of_lt_of_le hlt1 hb2.size
 clear hb2 H31 d2' H3
 go_wp2
 go_region_held3 (fun w'=>w'.cell? ⟨W.heap.size,0,none⟩=some (.map (some B))∧w'.cell? ⟨W.heap.size,1,none⟩=some (.map (some B2))∧w'.cell? ⟨b,off+3,none⟩=some (.string rnm)∧w'.cell? ⟨b,off+3+1,none⟩=some (.int .i64 rty)∧w'.cell? ⟨b,off+3+2,none⟩=some (.slice lo ln lc)∧w'.cell? ⟨b,off+6,none⟩=some (.slice bo bn bc)∧w'.cell? ⟨b,off+8,none⟩=some (.slice yo yn yc)) (go_keep)
  (first
    |(go_at_call 81;refine(HRS.out _ HB2.out.drew).mono ?_;rintro x W3 ⟨rfl,hb3⟩;have HB3:Hid (Below W0.heap.size W0 W3):=HB2.out.drew.trans (hb3.mono HB2.out.drew.size);obtain⟨⟨q0,q1⟩,q3,q4,q5,q6,q8⟩:=HCL.out W3 HB3.out;clear hb3)
    |(go_at_call 49;refine(HBG.out _ HB3.out).mono ?_;rintro x W4 ⟨rfl,hb4⟩;have HB4:Hid (Below W0.heap.size W0 W4):=HB3.out.trans (hb4.mono HB3.out.size);obtain⟨⟨r0,r1⟩,r3,r4,r5,r6,r8⟩:=HCL.out W4 HB4.out;clear hb4)
    |(go_at_call 82;refine(HBK.out _ HB4.out).mono ?_;rintro x W5 ⟨K',K2',rfl,g1,g2,g3,g4⟩;have H5:Hid (SetP W5 B K'∧SetP W5 B2 K2'∧Gr2 B B2 W4 W5∧(rb=true→InvP w0 K' 0∧InvS w0 K2' 0)):=⟨g1,g2,g3,g4⟩;have hlk:W.heap.size<W4.heap.size:=(by have h9:=HB4.out.size;omega);have hlb:b<W4.heap.size:=(by have h9:=HB4.out.size;omega);have s0:=(World.cell?_of_block (a:=⟨W.heap.size,0,none⟩) (g3.block W.heap.size hlk (by omega) (by omega))).trans r0;have s1:=(World.cell?_of_block (a:=⟨W.heap.size,1,none⟩) (g3.block W.heap.size hlk (by omega) (by omega))).trans r1;have s3:=(World.cell?_of_block (a:=⟨b,off+3,none⟩) (g3.block b hlb hbB hbB2)).trans r3;have s4:=(World.cell?_of_block (a:=⟨b,off+3+1,none⟩) (g3.block b hlb hbB hbB2)).trans r4;have s5:=(World.cell?_of_block (a:=⟨b,off+3+2,none⟩) (g3.block b hlb hbB hbB2)).trans r5;have s6:=(World.cell?_of_block (a:=⟨b,off+6,none⟩) (g3.block b hlb hbB hbB2)).trans r6;have s8:=(World.cell?_of_block (a:=⟨b,off+8,none⟩) (g3.block b hlb hbB hbB2)).trans r8;clear g1 g2 g3 g4))
 cases rb
 all_goals go_wp2
 ·refine bodyPost_ret (v:=.int .i64 4) (by simp[results,Tryz.results51,go_sem]) rfl ?_
  exact HP.out _ HB4.out _ _ _ H5.out.1 H5.out.2.1 H5.out.2.2.1 H5.out.2.2.2 4 rfl
 ·refine bodyPost_ret (v:=.int .i64 0) (by simp[results,Tryz.results51,go_sem]) rfl ?_
  exact HP.out _ HB4.out _ _ _ H5.out.1 H5.out.2.1 H5.out.2.2.1 H5.out.2.2.2 0 rfl
structure CkS (w0 W wr:World)(B B2 M:Nat)(Ki K2i:List PK)(a:List Prc)(j:Nat):Prop where
 bel:Below w0.heap.size w0 wr
 s1:SetP wr B Ki
 s2:SetP wr B2 K2i
 i1:InvP w0 Ki 0
 i2:InvS w0 K2i 0
 all:∀x∈a.take j,DpPc x
 box:wr.heap[M]? =some (.cells #[.map (some B),.map (some B2)] 124 (0,0))
theorem take_moreC {a:List Prc}{j:Nat}(hj:j<a.length)(h:∀x∈a.take j,DpPc x)(h1:DpPc a[j]):∀x∈a.take (j+1),DpPc x:=by
 intro x hx
 rw[List.take_succ_eq_append_getElem hj,List.mem_append] at hx
 rcases hx with hx | hx
 ·exact h x hx
 ·rw[List.mem_singleton.1 hx];exact h1
def CkP (w:World)(p:Prg)(x:Ending)(w':World):Prop:=x=.returned (.int .i64 (if dB (DpG p)=true then 0 else 4))∧Below w.heap.size w w'
theorem pair_strs {w wr:World}{q:ByteArray×ByteArray}(hw:w=wr.alloc (.cells #[.string q.1,.string q.2] 111)):Strs w (some ⟨wr.heap.size,0,none⟩) wr.heap.size 0 [q.1,q.2]:=by
 have hk:w.heap[wr.heap.size]? =some (.cells #[.string q.1,.string q.2] 111 (0,0)):=by rw[hw];exact heap_at_alloc _ _ _ rfl
 refine⟨fun _=>rfl,fun k hk'=> ?_,fun _=>lt_of_block hk⟩
 match k,hk' with
 | 0,_=>simp[World.cell?,hk]
 | 1,_=>simp[World.cell?,hk]
 | k+2,h=>simp at h;omega
theorem checkC {w:World}{S:Nat→Prop}{p:Prg}{co:Option Addr}{cn cc:Nat}{ao:Option Addr}{an ac:Nat}{no:Option Addr}{nn nc:Nat}{qo:Option Addr}{qn qc:Nat}(hp:PgIs w S p [.slice co cn cc,.slice ao an ac,.slice no nn nc,.slice qo qn qc])(hX:Par.PgX p)(hlv:LevAt w w.heap.size):
 Calls Tryz.prog 27 #[.agg #[.slice co cn cc,.slice ao an ac,.slice no nn nc,.slice qo qn qc]] w (CkP w p):=by
 obtain⟨cv,av,nv,qv,e1,h1,h2,h3,h4⟩:=hp
 simp only[List.cons.injEq,and_true] at e1
 obtain⟨rfl,rfl,rfl,rfl⟩:=e1
 obtain⟨w0,hw0⟩:∃w0,w0=w.alloc (.cells #[.slice co cn cc,.slice ao an ac,.slice no nn nc,.slice qo qn qc] 27):=⟨_,rfl⟩
 have hb0:Below w.heap.size w w0:=by rw[hw0];exact(Below.refl _ _).alloc (Nat.le_refl _) _
 have hk0:w0.heap[w.heap.size]? =some (.cells #[.slice co cn cc,.slice ao an ac,.slice no nn nc,.slice qo qn qc] 27 (0,0)):=by rw[hw0];exact heap_at_alloc _ _ _ rfl
 have hlk0:=lt_of_block hk0
 have hkw:=Keeps.of_below (S:=S) hb0
 have HLV:Hid (LevAt w0 w0.heap.size):=(hlv.keeps hb0.size fun b hb=>hb0.block b hb).mono (by omega)
 have HCH:Hid (StrsV w0 (fun b=>b<w0.heap.size) (.slice co cn cc) p.chiefs):=(h1.keeps hkw).mono fun b _ h=>h
 have HAC:Hid (RwV AcIs w0 (fun b=>b<w0.heap.size) 2 (.slice ao an ac) p.acts):=(h2.keeps (fun h=>isElA.keeps h hkw) hkw).mono (fun h=>isElA.mono h fun b _ h=>h) fun b _ h=>h
 have HCN:Hid (RwV ChIs w0 (fun b=>b<w0.heap.size) 5 (.slice no nn nc) p.chans):=(h3.keeps (fun h=>isElC.keeps h hkw) hkw).mono (fun h=>isElC.mono h fun b _ h=>h) fun b _ h=>h
 have HPR:Hid (RwV PcIs w0 (fun b=>b<w0.heap.size) 9 (.slice qo qn qc) p.procs):=(h4.keeps (fun h=>isElPc.keeps h hkw) hkw).mono (fun h=>isElPc.mono h fun b _ h=>h) fun b _ h=>h
 have hcl:cn=p.chiefs.length:=by obtain⟨_,_,_,_,e,_⟩:=strs_at h1;cases e;rfl
 have hal:an=p.acts.length:=by obtain⟨_,_,e⟩:=h2.val;cases e;rfl
 have hnl:nn=p.chans.length:=by obtain⟨_,_,e⟩:=h3.val;cases e;rfl
 have hql:qn=p.procs.length:=by obtain⟨_,_,e⟩:=h4.val;cases e;rfl
 have HLN:Hid (cn=p.chiefs.length∧an=p.acts.length∧nn=p.chans.length∧qn=p.procs.length):=⟨hcl,hal,hnl,hql⟩
 have b1:decide ((6:Int)<(cn:Int))=false:=by have:=hX.nchief;simp;omega
 have b2:decide ((10:Int)<(an:Int))=false:=by have:=hX.nact;simp;omega
 have b3:decide ((6:Int)<(nn:Int))=false:=by have:=hX.nchan;simp;omega
 have b4:decide ((6:Int)<(qn:Int))=false:=by have:=hX.nproc;simp;omega
 have l2:an≤10:=by have:=hX.nact;omega
 have l3:nn≤6:=by have:=hX.nchan;omega
 have l4:qn≤6:=by have:=hX.nproc;omega
 have H1:=namesT HCH.out hX.chief (by have:=hX.nchief;omega)
 have HX:Hid (Par.PgX p):=hX
 have HB0:Hid (Below w.heap.size w w0):=hb0
 have HK0:Hid (∀W,Below w0.heap.size w0 W→(W.cell? ⟨w.heap.size,1,none⟩=some (.slice ao an ac)∧W.cell? ⟨w.heap.size,2,none⟩=some (.slice no nn nc)∧W.cell? ⟨w.heap.size,3,none⟩=some (.slice qo qn qc))∧w.heap.size<W.heap.size):=fun W hW=>by
  have hk:=(hW.block _ hlk0).trans hk0
  refine⟨⟨?_,?_,?_⟩,lt_of_block hk⟩<;>simp[World.cell?,hk]
 clear h1 h2 h3 h4 hX hlv hb0 hk0 hkw hcl hal hnl hql
 go_enter Tryz.func27,Tryz.ntmps27
 go_wp2_with fail
 rw[←hw0]
 clear hw0
 refine H1.mono ?_
 rintro x w1 ⟨rfl,hb1⟩
 have HW1:Hid (Below w0.heap.size w0 w1):=hb1
 obtain⟨⟨k1,k2,k3⟩,hl1⟩:=HK0.out w1 hb1
 clear hb1 H1
 go_wp2
 go_loopw [39] (fun i wr=>∃j:Nat,j≤an∧i=.int .i64 j∧Hid (Below w0.heap.size w0 wr)) (fun i _=>an - (intOf i).toNat)
 case atStart=>exact⟨0,Nat.zero_le _,rfl,HW1⟩
 case round=>
  clear k1 k2 k3 hl1 HW1
  obtain⟨j,hj,rfl,HB⟩:=hrel
  by_cases hlt:j<an
  ·obtain⟨css,⟨ao',ab,aoff,ac',hv,hr⟩,hcl,hk⟩:=HAC.out
   simp only[Value.slice.injEq] at hv
   obtain⟨rfl,hv2,rfl⟩:=hv
   have hjc:j<css.length:=by omega
   have hja:j<p.acts.length:=by omega
   obtain rfl:=hr.adr (by omega)
   obtain⟨f1,f2,f3⟩:=hk j hja hjc
   have hbl:=hr.lt (by omega)
   have hbl2:ab<wr.heap.size:=Nat.lt_of_lt_of_le hbl HB.out.size
   have fc:∀i u,css[j][i]? =some u→wr.cell? ⟨ab,aoff+j*2+i,none⟩=some u:=fun i u hu=>(HB.out.cell (p:=⟨ab,aoff+j*2+i,none⟩) hbl).trans (hr.cell j hjc i u hu)
   rw[f1] at fc
   have c0:wr.cell? ⟨ab,aoff+j*2,none⟩=_:=fc 0 _ rfl
   have c1:=fc 1 _ rfl
   have hnm:=HX.out.act _ (List.getElem_mem hja)
   obtain⟨q,hq⟩:∃q,q=p.acts[j]:=⟨_,rfl⟩
   rw[←hq] at c0 c1 f2 f3 hnm
   obtain⟨V,hV⟩:∃V,V=wr.alloc (.cells #[.string q.1,.string q.2] 111):=⟨_,rfl⟩
   have hbV:Below wr.heap.size wr V:=by rw[hV];exact(Below.refl _ _).alloc (Nat.le_refl _) _
   have hnc:=namesC (some ⟨wr.heap.size,0,none⟩) wr.heap.size 0 2 2 [q.1,q.2] V rfl (by omega) (pair_strs hV) (fun s hs=>by
    simp only[List.mem_cons,List.not_mem_nil,or_false] at hs
    rcases hs with rfl | rfl
    ·exact f2
    ·exact f3)
   rw[show Par.namesOK [q.1,q.2]=true by simp[Par.namesOK,hnm.1,hnm.2]] at hnc
   have HBV:Hid (Below w0.heap.size w0 V):=HB.out.trans (hbV.mono HB.out.size)
   clear hr hcl hk hv2 f1 f2 f3 fc hbl hnm hq hbV
   go_wp2_with fail
   rw[←hV]
   clear hV
   refine hnc.mono ?_
   rintro x V2 ⟨rfl,hb2⟩
   have HB2:Hid (Below w0.heap.size w0 V2):=HBV.out.trans (hb2.mono HBV.out.size)
   clear hb2 hnc
   go_wp2
   go_roundw
   case rel=>exact⟨j+1,by omega,by go_num,HB2⟩
   case measure=>simp[intOf];omega
  ·obtain⟨⟨k1,k2,k3⟩,hl1⟩:=HK0.out wr HB.out
   go_wp2
   go_loopw [50] (fun i wx=>∃j:Nat,j≤nn∧i=.int .i64 j∧Hid (Below w0.heap.size w0 wx)) (fun i _=>nn - (intOf i).toNat)
   case atStart=>exact⟨0,Nat.zero_le _,rfl,HB⟩
   case round=>
    clear k1 k2 k3 hl1 HB
    obtain⟨wx,rfl⟩:∃wx,wx=wr:=⟨_,rfl⟩
    obtain⟨i,hi,rfl,HB⟩:=hrel
    by_cases hlt2:i<nn
    ·obtain⟨css,⟨ao',ab,aoff,ac',hv,hr⟩,hcl,hk⟩:=HCN.out
     simp only[Value.slice.injEq] at hv
     obtain⟨rfl,hv2,rfl⟩:=hv
     have hjc:i<css.length:=by omega
     have hja:i<p.chans.length:=by omega
     obtain rfl:=hr.adr (by omega)
     obtain⟨lv,f1,f2,f3⟩:=hk i hja hjc
     obtain⟨lo,lc,rfl⟩:=f3.val
     have hbl:=hr.lt (by omega)
     have hbl2:ab<wx.heap.size:=Nat.lt_of_lt_of_le hbl HB.out.size
     have fc:∀i2 u,css[i][i2]? =some u→wx.cell? ⟨ab,aoff+i*5+i2,none⟩=some u:=fun i2 u hu=>(HB.out.cell (p:=⟨ab,aoff+i*5+i2,none⟩) hbl).trans (hr.cell i hjc i2 u hu)
     rw[f1] at fc
     have c0:wx.cell? ⟨ab,aoff+i*5,none⟩=_:=fc 0 _ rfl
     have c1:=fc 1 _ rfl
     have c2:=fc 2 _ rfl
     have c3:=fc 3 _ rfl
     have c4:=fc 4 _ rfl
     have hnm:=HX.out.chan _ (List.getElem_mem hja)
     obtain⟨q,hq⟩:∃q,q=p.chans[i]:=⟨_,rfl⟩
     rw[←hq] at c0 c1 c2 c3 c4 f2 f3 hnm
     obtain⟨at_,name,inw,type,lab⟩:=q
     simp only at c0 c1 c2 c3 c4 f2 f3 hnm
     obtain⟨ln,hln⟩:∃ln,ln=lab.length:=⟨_,rfl⟩
     rw[←hln] at c4 f3
     obtain⟨V,hV⟩:∃V,V=wx.alloc (.cells #[.int .i64 at_,.string name,.bool inw,.int .i64 type,.slice lo ln lc] 54):=⟨_,rfl⟩
     have hbV:Below wx.heap.size wx V:=by rw[hV];exact(Below.refl _ _).alloc (Nat.le_refl _) _
     have hkV:V.heap[wx.heap.size]? =some (.cells #[.int .i64 at_,.string name,.bool inw,.int .i64 type,.slice lo ln lc] 54 (0,0)):=by rw[hV];exact heap_at_alloc _ _ _ rfl
     have v1:V.cell? ⟨wx.heap.size,1,none⟩=some (.string name):=by simp[World.cell?,hkV]
     have v3:V.cell? ⟨wx.heap.size,3,none⟩=some (.int .i64 type):=by simp[World.cell?,hkV]
     have v4:V.cell? ⟨wx.heap.size,4,none⟩=some (.slice lo ln lc):=by simp[World.cell?,hkV]
     have hlV:=lt_of_block hkV
     have HBV:Hid (Below w0.heap.size w0 V):=HB.out.trans (hbV.mono HB.out.size)
     have G1:=hasTC type hnm.1 V
     have G2:=nameT name V f2 hnm.2.1
     have G3:=labFT (f3.keeps (Keeps.of_below HBV.out)) hnm.2.2
     clear hr hcl hk hv2 f1 f2 f3 fc hbl hnm hq hbV hln hkV
     go_wp2_with fail
     rw[←hV]
     clear hV
     refine G1.mono ?_
     rintro x V1 ⟨rfl,hw1⟩
     have hws:=hw1.symm;subst hws
     go_wp2_with fail
     refine G2.mono ?_
     rintro x V1 ⟨rfl,hw1⟩
     have hws:=hw1.symm;subst hws
     go_wp2_with fail
     refine G3.mono ?_
     rintro x V2 ⟨rfl,hb2⟩
     have HB2:Hid (Below w0.heap.size w0 V2):=HBV.out.trans (hb2.mono HBV.out.size)
     clear hb2 G1 G2 G3
     go_wp2
     go_roundw
     case rel=>exact⟨i+1,by omega,by go_num,HB2⟩
     case measure=>simp[intOf];omega
    ·have hnew:=newLS wx
     go_wp2_with fail
     refine hnew.mono ?_
     rintro x V1 ⟨rfl,g1,g2,hb1⟩
     obtain⟨B,hB⟩:∃B,B=wx.heap.size+1:=⟨_,rfl⟩
     obtain⟨B2,hB2⟩:∃B2,B2=wx.heap.size+2:=⟨_,rfl⟩
     rw[←hB,←hB2]
     rw[←hB] at g1
     rw[←hB2] at g2
     obtain⟨V2,hV2⟩:∃V2,V2=V1.alloc (.cells #[.map (some B),.map (some B2)] 124):=⟨_,rfl⟩
     have hb2:Below V1.heap.size V1 V2:=by rw[hV2];exact(Below.refl _ _).alloc (Nat.le_refl _) _
     have hk2:V2.heap[V1.heap.size]? =some (.cells #[.map (some B),.map (some B2)] 124 (0,0)):=by rw[hV2];exact heap_at_alloc _ _ _ rfl
     have hwB:w0.heap.size≤wx.heap.size:=HB.out.size
     have hlB:=g1.lt
     have hlB2:=g2.lt
     have HV2:Hid (Below w0.heap.size w0 V2):=(HB.out.trans (hb1.mono HB.out.size)).trans (hb2.mono (by have:=hb1.size;omega))
     have HS0:Hid (CkS w0 w V2 B B2 V1.heap.size [] [] p.procs 0):=⟨HV2.out,set_low g1 hb2,set_low g2 hb2,InvP.none _ _,fun q hq=>by simp at hq,by simp,hk2⟩
     obtain⟨M,hM⟩:∃M,M=V1.heap.size:=⟨_,rfl⟩
     rw[←hM] at HS0
     have HBB:Hid (w0.heap.size≤B∧w0.heap.size≤B2∧B2≠B∧M≠B∧M≠B2∧w.heap.size≠B∧w.heap.size≠B2∧w0.heap.size≤M):=by refine⟨?_,?_,?_,?_,?_,?_,?_,?_⟩<;>(have:=hb1.size;omega)
     obtain⟨⟨k1,k2,k3⟩,hl1⟩:=HK0.out V2 HV2.out
     obtain⟨⟨kw1,kw2,kw3⟩,hlw1⟩:=HK0.out V1 (HB.out.trans (hb1.mono HB.out.size))
     clear hnew g1 g2 hb1 hb2 hk2 hlB hlB2 hB hB2
     go_wp2
     rw[←hV2,←hM]
     clear hV2 hM k1 k2 k3 kw1 kw2 kw3 hl1 hlw1
     go_loopw [75] (fun i wy=>∃(j:Nat) (Ki K2i:List PK),j≤qn∧i=.int .i64 j∧Hid (CkS w0 w wy B B2 M Ki K2i p.procs j)) (fun i _=>qn - (intOf i).toNat)
     case atStart=>exact⟨0,_,_,Nat.zero_le _,rfl,HS0⟩
     case round=>
      clear HS0 HV2
      obtain⟨wy,rfl⟩:∃wy,wy=wr:=⟨_,rfl⟩
      obtain⟨t,Ki,K2i,ht,rfl,HC⟩:=hrel
      obtain⟨⟨k1,k2,k3⟩,hl1⟩:=HK0.out wy HC.out.bel
      by_cases hlt3:t<qn
      ·obtain⟨css,⟨ao',ab,aoff,ac',hv,hr⟩,hcl,hk⟩:=HPR.out
       simp only[Value.slice.injEq] at hv
       obtain⟨rfl,hv2,rfl⟩:=hv
       have hjc:t<css.length:=by omega
       have hja:t<p.procs.length:=by omega
       obtain rfl:=hr.adr (by omega)
       obtain⟨l0,l1⟩:=blkL HC.out.box
       have hlM:=lt_of_block HC.out.box
       have hcall:=procK HBB.out.1 HBB.out.2.1 HBB.out.2.2.1 HLV.out (W:=wy.drew) (b:=ab) (off:=aoff+t*9) (below_dn HC.out.bel 1) (HC.out.s1.keeps rfl fun _ _=>rfl) (HC.out.s2.keeps rfl fun _ _=>rfl) HC.out.i1 HC.out.i2 ⟨hr.lt (by omega),fun i u hu=>hr.cell t hjc i u hu⟩ (hk t hja hjc) (HX.out.proc _ (List.getElem_mem hja))
       have hMB:M≠B:=HBB.out.2.2.2.1
       have hMB2:M≠B2:=HBB.out.2.2.2.2.1
       have hwB1:w.heap.size≠B:=HBB.out.2.2.2.2.2.1
       have hwB2:w.heap.size≠B2:=HBB.out.2.2.2.2.2.2.1
       unfold PrP at hcall
       by_cases hq:DpPc p.procs[t]
       ·have HQ:Hid (DpPc p.procs[t]):=hq
        rw[dB_true hq] at hcall
        have HCA:Hid (Calls Tryz.prog 51 #[.agg #[.map (some B),.map (some B2)],.pointer (some ⟨ab,aoff+t*9,none⟩)] wy.drew fun x W'=>∃K' K2',x=.returned (.int .i64 0)∧SetP W' B K'∧SetP W' B2 K2'∧Gr2 B B2 wy.drew W'∧InvP w0 K' 0∧InvS w0 K2' 0):=hcall.mono fun x W' ⟨K',K2',e1,e2,e3,e4,e5⟩=>⟨K',K2',e1,e2,e3,e4,e5 hq⟩
        clear hcall hq hr hcl hk hv2
        go_wp2
        go_region_held3 (fun w'=>w'.cell? ⟨M,0,none⟩=some (.map (some B))∧w'.cell? ⟨M,1,none⟩=some (.map (some B2))∧w'.cell? ⟨w.heap.size,3,none⟩=some (.slice (some ⟨ab,aoff,none⟩) qn qc)) (go_keep)
         (first
           |(go_at_call 51;refine(HCA.out).mono ?_;rintro x w3 ⟨K',K2',rfl,g1,g2,g3,g4,g5⟩;have H3:Hid (SetP w3 B K'∧SetP w3 B2 K2'∧Gr2 B B2 wy.drew w3∧InvP w0 K' 0∧InvS w0 K2' 0):=⟨g1,g2,g3,g4,g5⟩;have q0:w3.cell? ⟨M,0,none⟩=some (.map (some B)):=(World.cell?_of_block (a:=⟨M,0,none⟩) (g3.block M hlM hMB hMB2)).trans l0;have q1:w3.cell? ⟨M,1,none⟩=some (.map (some B2)):=(World.cell?_of_block (a:=⟨M,1,none⟩) (g3.block M hlM hMB hMB2)).trans l1;have q2:w3.cell? ⟨w.heap.size,3,none⟩=some (.slice (some ⟨ab,aoff,none⟩) qn qc):=(World.cell?_of_block (a:=⟨w.heap.size,3,none⟩) (g3.block w.heap.size hl1 hwB1 hwB2)).trans k3;clear g1 g2 g3 g4 g5))
        all_goals go_wp2
        go_roundw
        case rel=>
         refine⟨t+1,K',K2',by omega,by go_num,?_⟩
         obtain⟨g1,g2,g3,g4,g5⟩:=H3.out
         exact⟨(Gr2.undrew (n:=1) g3).below HC.out.bel HBB.out.1 HBB.out.2.1,g1,g2,g4,g5,take_moreC hja HC.out.all HQ.out,(g3.block _ hlM hMB hMB2).trans HC.out.box⟩
        case measure=>simp[intOf];omega
       ·have HQ:Hid (¬DpG p):=fun h=>hq (h _ (List.getElem_mem hja))
        rw[dB_false hq] at hcall
        have HCA:Hid (Calls Tryz.prog 51 #[.agg #[.map (some B),.map (some B2)],.pointer (some ⟨ab,aoff+t*9,none⟩)] wy.drew fun x W'=>x=.returned (.int .i64 4)∧Gr2 B B2 wy.drew W'):=hcall.mono fun x W' ⟨K',K2',e1,e2,e3,e4,e5⟩=>⟨e1,e4⟩
        clear hcall hq hr hcl hk hv2
        go_wp2
        go_region_held3 (fun w'=>w'.cell? ⟨M,0,none⟩=some (.map (some B))∧w'.cell? ⟨M,1,none⟩=some (.map (some B2))∧w'.cell? ⟨w.heap.size,3,none⟩=some (.slice (some ⟨ab,aoff,none⟩) qn qc)) (go_keep)
         (first
           |(go_at_call 51;refine(HCA.out).mono ?_;rintro x w3 ⟨rfl,g3⟩;have H3:Hid (Gr2 B B2 wy.drew w3):=g3;have q0:w3.cell? ⟨M,0,none⟩=some (.map (some B)):=(World.cell?_of_block (a:=⟨M,0,none⟩) (g3.block M hlM hMB hMB2)).trans l0;have q1:w3.cell? ⟨M,1,none⟩=some (.map (some B2)):=(World.cell?_of_block (a:=⟨M,1,none⟩) (g3.block M hlM hMB hMB2)).trans l1;have q2:w3.cell? ⟨w.heap.size,3,none⟩=some (.slice (some ⟨ab,aoff,none⟩) qn qc):=(World.cell?_of_block (a:=⟨w.heap.size,3,none⟩) (g3.block w.heap.size hl1 hwB1 hwB2)).trans k3;clear g3))
        all_goals go_wp2
        refine bodyPost_ret (v:=.int .i64 4) (by simp[results,Tryz.results27,go_sem]) rfl ?_
        exact⟨by rw[dB_false HQ.out];rfl,HB0.out.trans (((Gr2.undrew (n:=1) H3.out).below HC.out.bel HBB.out.1 HBB.out.2.1).mono HB0.out.size)⟩
      ·have HQ:Hid (DpG p):=by
        have h:=HC.out.all
        rw[List.take_of_length_le (by have:=HLN.out;omega)] at h
        exact h
       go_wp2
       refine bodyPost_ret (v:=.int .i64 0) (by simp[results,Tryz.results27,go_sem]) rfl ?_
       exact⟨by rw[dB_true HQ.out];rfl,HB0.out.trans (HC.out.bel.mono HB0.out.size)⟩
open Par (Tr Stm Prm Chn Prc Prg Po ba)
def bodiesF (P:Prg)(m n:Nat):Bool→List Prc→Option Bool
 | u,[]=>some u
 | u,q::l=>(Sk.bodyF P (checkL P.chiefs P.acts) m n u q).bind fun u'=>bodiesF P m n u' l
structure ProgOK (P:Prg)(m n:Nat):Prop where
 px:Par.PgX P
 dp:DpG P
 chf:checkF P.chiefs P.acts=0
 chn:∀i (hi:i<P.chans.length),(∀j (hj:j<i),P.chans[j].name≠P.chans[i].name)∧checkL P.chiefs P.acts P.chans[i].lab=0
 prc:∀i (hi:i<P.procs.length),(∀j (hj:j<i),P.procs[j].name≠P.procs[i].name)∧P.procs[i].params.length≤900∧(∀j (hj:j<P.procs[i].params.length),(∀k (hk:k<j),P.procs[i].params[k].name≠P.procs[i].params[j].name)∧checkL P.chiefs P.acts P.procs[i].params[j].lab=0)∧checkL P.chiefs P.acts P.procs[i].result.lab=0∧checkL P.chiefs P.acts P.procs[i].begin_=0∧P.procs[i].for_=[]
 bod:∃u,bodiesF P m n false P.procs=some u
 man:∃q,Rr.findP P.procs (ba [109,97,105,110])=some q∧q.params=[]∧q.result.type=0
 few:P.chans.length≤1000∧P.procs.length≤10
 cst:100*Sk.sst m n<1000000000
def PrI (w0:World)(L kb pb:Nat)(P:Prg)(m n:Nat)(wr:World)(k:Nat):Prop:=
 ∃X vs vk u u',Lk w0 wr L kb pb X P vs vk 0 u (k*(8*Sk.sst m n))∧bodiesF P m n u (P.procs.drop k)=some u'
theorem programK {w0 w:World}{L kb pb:Nat}{X:Nat→Prop}{P:Prg}{m n:Nat}{cv av nv qv:Value}(hB:Lb w0 L pb P cv av nv qv)(hlev:LevAt w0 L)(hOK:ProgOK P m n)(h:Lk w0 w L kb pb X P [] [] 0 false 0):
 Calls Tryz.prog 53 #[.pointer (some ⟨kb,0,none⟩)] w fun x w'=>x=.returned (.tuple #[])∧Below L w0 w':=by
 obtain⟨ao,po,cb,coff,ab,aoff,cc,ac,rfl,rfl,hch⟩:=hB.chiefs
 obtain⟨c1,c2,c3,c4,hcs,hp1,hp2,hp3,hp4⟩:=hB.is
 simp only[List.cons.injEq,and_true] at hcs
 obtain⟨rfl,rfl,rfl,rfl⟩:=hcs
 obtain⟨no,nc,rfl⟩:=hp3.val
 obtain⟨qss,⟨qo,qb,qoff,qc,rfl,hqrow⟩,hql,hqk⟩:=hp4
 have HIS:Hid (∀W,Below L w0 W→PgIs W (fun b=>b<L) P [.slice ao P.chiefs.length cc,.slice po P.acts.length ac,.slice no P.chans.length nc,.slice qo qss.length qc]):=fun W hW=>hB.is.keeps (kbase hW)
 obtain⟨cn,hcn⟩:∃n,n=P.chiefs.length:=⟨_,rfl⟩
 obtain⟨an,han⟩:∃n,n=P.acts.length:=⟨_,rfl⟩
 obtain⟨nn,hnn⟩:∃n,n=P.chans.length:=⟨_,rfl⟩
 obtain⟨qn,hqn⟩:∃n,n=qss.length:=⟨_,rfl⟩
 have HN:Hid (nn=P.chans.length∧qn=qss.length∧qss.length=P.procs.length):=⟨hnn,hqn,hql⟩
 have HB:=hidq hB
 have HOK:=hidq hOK
 have HCC:Hid (∀(W:World) (X:Nat→Prop) (vs vk:Sk.Vs) (u:Bool) (N:Nat),Lk w0 W L kb pb X P vs vk 0 u N→W.cell? ⟨kb,0,none⟩=some (.pointer (some ⟨pb,0,none⟩))∧W.cell? ⟨pb,0,none⟩=some (.slice ao cn cc)∧W.cell? ⟨pb,1,none⟩=some (.slice po an ac)∧W.cell? ⟨pb,2,none⟩=some (.slice no nn nc)∧W.cell? ⟨pb,3,none⟩=some (.slice qo qn qc)∧kb<W.heap.size∧pb<W.heap.size):=fun W X vs vk u N g=>by
  obtain⟨_,_,_,_,_,_,hE⟩:=g
  have hblk:=(hE.bel.block pb hB.pl).trans hB.blk
  refine⟨hE.cells.1,?_,?_,?_,?_,hE.cells.2.2.2.2.2.2.1,lt_of_block hblk⟩
  ·rw[hcn];exact cl hblk 0 rfl
  ·rw[han];exact cl hblk 1 rfl
  ·rw[hnn];exact cl hblk 2 rfl
  ·rw[hqn];exact cl hblk 3 rfl
 have HTR:Hid (∀W,Below L w0 W→Calls Tryz.prog 27 #[.agg #[.slice ao cn cc,.slice po an ac,.slice no nn nc,.slice qo qn qc]] W fun x w'=>x=.returned (.int .i64 0)∧Below W.heap.size W w'):=fun W hW=>by
  have h1:=checkC (HIS.out W hW) hOK.px ((hlev.keeps hW.size fun b hb=>hW.block b hb).mono (by have:=hB.low;have:=hW.size;omega))
  rw[←hcn,←han,←hnn,←hqn] at h1
  refine h1.mono ?_
  rintro x w' ⟨rfl,h2⟩
  rw[dB_true hOK.dp]
  exact⟨rfl,h2⟩
 have HCH:Hid (∀W,Below L w0 W→Calls Tryz.prog 85 #[.slice ao cn cc,.slice po an ac] W fun x w'=>x=.returned (.int .i64 0)∧Below W.heap.size W w'):=fun W hW=>by
  have h1:=check_of (d:=ac) (hidq (hch W hW))
  rw[hOK.chf,←hcn,←han] at h1
  exact h1
 have hte:=fun w=>tellC 0 w
 have HLK:=hidq h
 obtain⟨z0,y0,y1,y2,y3,zl,yl⟩:=HCC.out w _ _ _ _ _ h
 have hqn10:qn≤10:=by have:=hOK.few.2;omega
 have hnn1000:nn≤1000:=by have:=hOK.few.1;omega
 have HBW:Hid (Below L w0 w∧L≤w.heap.size):=⟨h.bel,by have:=hB.low;have:=h.bel.size;omega⟩
 have HQR:=hidq hqrow
 have HQK:=hidq hqk
 clear hB hOK h hp1 hp2 hp3 hch hcn han hnn hqn hql hlev hqrow hqk
 go_enter Tryz.func53,Tryz.ntmps53
 have htr:=HTR.out w HBW.out.1
 go_wp2_with fail
 refine htr.mono ?_
 rintro x w1 ⟨rfl,hb1⟩
 have H1:=hidq (HLK.out.later hb1)
 clear htr hb1
 go_wp2_with fail
 refine(hte w1).mono ?_
 rintro x w2 ⟨rfl,hw2⟩
 have hw2':=hw2.symm
 subst hw2'
 clear hw2 z0 y0 y1 y2 y3 zl yl
 obtain⟨z0,y0,y1,y2,y3,zl,yl⟩:=HCC.out w1 _ _ _ _ _ H1.out.1
 have HL1:Hid (∀W,Below w1.heap.size w1 W→Lk w0 W L kb pb X P [] [] 0 false 0):=fun W hW=>(H1.out.1.later hW).1
 have HCH1:Hid (∀W,Below w1.heap.size w1 W→Calls Tryz.prog 85 #[.slice ao cn cc,.slice po an ac] W fun x w'=>x=.returned (.int .i64 0)∧Below w1.heap.size w1 w'):=fun W hW=>(HCH.out W (HL1.out W hW).bel).mono fun x w' ⟨h1,h2⟩=>⟨h1,bu hW h2⟩
 go_wp2
 go_region_held3 (fun W=>W.cell? ⟨kb,0,none⟩=some (.pointer (some ⟨pb,0,none⟩))∧W.cell? ⟨pb,0,none⟩=some (.slice ao cn cc)∧W.cell? ⟨pb,1,none⟩=some (.slice po an ac)) (go_keep)
  (first
    |(go_at_call 85;refine(HCH1.out _ (by exact⟨rfl,rfl,rfl,Nat.le_refl _,fun _ _=>rfl⟩)).mono ?_;rintro x w2 ⟨rfl,hb2⟩;have H2:=hidq (HL1.out w2 hb2);obtain⟨e0,e1,e2,e3,e4,el,em⟩:=HCC.out w2 _ _ _ _ _ H2.out;clear hb2)
    |(go_at_call 84;refine(hte _).mono ?_;rintro x w3 ⟨rfl,hw3⟩;have hw3':=hw3.symm;subst hw3';clear hw3))
 clear z0 y0 y1 y2 y3 zl yl
 have HL2:Hid (∀W,Below w2.heap.size w2 W→Lk w0 W L kb pb X P [] [] 0 false 0):=fun W hW=>(H2.out.later hW).1
 go_wp2
 go_loopw [38] (fun i wr=>∃k:Nat,k≤nn∧i=.int .i64 k∧Hid (Below w2.heap.size w2 wr)) (fun i _=>nn - (intOf i).toNat)
 case atStart=>exact⟨0,Nat.zero_le _,rfl,⟨rfl,rfl,rfl,Nat.le_refl _,fun _ _=>rfl⟩⟩
 case round=>
  obtain⟨k,hk,rfl,HI⟩:=hrel
  by_cases hlt:k<nn
  ·have hkn:k<P.chans.length:=by have:=HN.out.1;omega
   have hcall:=chanHeadK HB.out (HL2.out wr HI.out) hkn (HOK.out.chn k hkn).1 (HOK.out.chn k hkn).2
   clear e0 e1 e2 e3 e4 el em hkn
   go_wp2_with fail
   refine hcall.mono ?_
   rintro x w4 ⟨rfl,hb4⟩
   have HB4:=hidq (bu HI.out hb4)
   clear hcall hb4
   go_wp2
   go_roundw
   case rel=>exact⟨k+1,by omega,by go_num,HB4⟩
   case measure=>simp[intOf];omega
  ·obtain rfl:k=nn:=by omega
   rename World=>w5
   have HL3:Hid (∀W,Below w5.heap.size w5 W→Lk w0 W L kb pb X P [] [] 0 false 0):=fun W hW=>HL2.out W (bu HI.out hW)
   clear e0 e1 e2 e3 e4 el em
   obtain⟨z0,y0,y1,y2,y3,zl,yl⟩:=HCC.out w5 _ _ _ _ _ (HL2.out w5 HI.out)
   go_wp2
   go_loopw [53] (fun i wr=>∃k:Nat,k≤qn∧i=.int .i64 k∧Hid (Below w5.heap.size w5 wr)) (fun i _=>qn - (intOf i).toNat)
   case atStart=>exact⟨0,Nat.zero_le _,rfl,⟨rfl,rfl,rfl,Nat.le_refl _,fun _ _=>rfl⟩⟩
   case round=>
    obtain⟨j,hj,rfl,HJ⟩:=hrel
    by_cases hjt:j<qn
    ·have hjn:j<P.procs.length:=by have:=HN.out;omega
     have hp:=HOK.out.prc j hjn
     have hcall:=procHeadK HB.out (HL3.out wr HJ.out) hjn hp.1 hp.2.1 hp.2.2.1 hp.2.2.2.1 hp.2.2.2.2.1 hp.2.2.2.2.2
     clear z0 y0 y1 y2 y3 zl yl hp hjn
     go_wp2_with fail
     refine hcall.mono ?_
     rintro x w4 ⟨rfl,hb4⟩
     have HB4:=hidq (bu HJ.out hb4)
     clear hcall hb4
     go_wp2
     go_roundw
     case rel=>exact⟨j+1,by omega,by go_num,HB4⟩
     case measure=>simp[intOf];omega
    ·obtain rfl:j=qn:=by omega
     rename World=>w6
     have HI0:Hid (PrI w0 L kb pb P m n w6 0):=by
      obtain⟨ue,hue⟩:=HOK.out.bod
      exact⟨X,[],[],false,ue,by rw[Nat.zero_mul];exact HL3.out w6 HJ.out,hue⟩
     clear z0 y0 y1 y2 y3 zl yl
     obtain⟨z0,y0,y1,y2,y3,zl,yl⟩:=HCC.out w6 _ _ _ _ _ (HL3.out w6 HJ.out)
     go_wp2
     clear z0 y0 y1 y2 y3 zl yl
     go_loopw [68] (fun i wr=>∃k:Nat,k≤j∧i=.int .i64 k∧Hid (PrI w0 L kb pb P m n wr k)) (fun i _=>j - (intOf i).toNat)
     case atStart=>exact⟨0,Nat.zero_le _,rfl,HI0⟩
     case round=>
      obtain⟨t,htq,rfl,HT⟩:=hrel
      obtain⟨X1,vs1,vk1,u1,u2,hlk1,hbf⟩:=HT.out
      obtain⟨z0,y0,y1,y2,y3,zl,yl⟩:=HCC.out wr _ _ _ _ _ hlk1
      by_cases htt:t<j
      ·have htn:t<P.procs.length:=by have:=HN.out;omega
       have htc:t<qss.length:=by have:=HN.out;omega
       rw[List.drop_eq_getElem_cons htn] at hbf
       unfold bodiesF at hbf
       obtain⟨u3,hb1,hb2⟩:=Option.bind_eq_some_iff.1 hbf
       have hms:t*(8*Sk.sst m n)≤9*(8*Sk.sst m n):=Nat.mul_le_mul_right _ (by omega)
       have hcall:=bodyK HB.out hlk1 (HQR.out.at htc) (HQK.out t htn htc) (HOK.out.prc t htn).2.1 hb1 (by have:=HOK.out.cst;omega)
       have hadr:=HQR.out.adr (by omega)
       have hbw:qb<wr.heap.size:=Nat.lt_of_lt_of_le (HQR.out.lt (by omega)) hlk1.bel.size
       have HNX:Hid (∀W vs',LkP w0 wr L kb pb X1 P vs' 0 u3 (t*(8*Sk.sst m n)+8*Sk.sst m n) W→PrI w0 L kb pb P m n W (t+1)):=fun W vs' ⟨X2,vk2,g1,g2⟩=>⟨X2,vs',vk2,u3,u2,by rw[Nat.succ_mul];exact g1,hb2⟩
       clear hlk1 hbf hb1 hb2 hms htn htc HT
       subst hadr
       go_wp2_with fail
       refine hcall.mono ?_
       rintro x w4 ⟨rfl,h4⟩
       have H4:Hid (PrI w0 L kb pb P m n w4 (t+1)):=by
        obtain⟨vs',h5⟩:=h4.out
        exact HNX.out w4 vs' h5
       clear hcall h4
       go_wp2
       go_roundw
       case rel=>exact⟨t+1,by omega,by go_num,H4⟩
       case measure=>simp[intOf];omega
      ·obtain rfl:t=j:=by omega
       rename World=>w7
       have HB7:Hid (∀W,Below w7.heap.size w7 W→Below L w0 W):=fun W hW=>(hlk1.later hW).1.bel
       obtain⟨q,hfq,hpz,hrz⟩:=HOK.out.man
       have hcall:=scProcK HB.out hlk1 hfq 0
       have hti:=fun p w=>tellIfC 4 p w
       clear hbf z0 y0 y1 y2 y3 zl yl
       go_wp2_with fail
       refine hcall.mono ?_
       rintro x w8 ⟨b,off,cs,rfl,hat,hpc, -,hb8⟩
       obtain⟨pv,rl,bv,fv,yv,rfl, -, -,hpar, -⟩:=hpc
       obtain⟨po,pc,rfl⟩:=hpar.val
       have hat8:=hat.keeps (kbase (HB7.out w8 hb8))
       have q0:=hat8.cell 0 _ rfl
       have q2:=hat8.cell 2 _ rfl
       have q4:=hat8.cell 4 _ rfl
       have ql:=hat8.lt
       simp only[Nat.add_zero] at q0
       rw[hpz] at q2
       rw[hrz] at q4
       simp only[List.length_nil] at q2
       have HF:=hidq (HB7.out w8 hb8)
       clear hat hat8 hpar hcall hb8 hlk1
       go_wp2
       go_quiet ((go_at_call 90;exact Calls.quiet_of_same (hti _ _)))
       go_wp2
       go_end0
       exact⟨rfl,HF.out.trans ⟨rfl,rfl,rfl,Nat.le_refl _,fun _ _=>rfl⟩⟩
end Go.Proofs.YtepkhlpjgnckkaaGreatDoor
