/- parse's reader of programs: stmt, its other ways. parse's reader of programs: stmt. Contract of (*reader).bound, the loop. -/
import Derived.Test.YtepkhlpjgnckkaaGreatDoorZC4
import Derived.Deep.RegionHeld
namespace Go.Proofs.YtepkhlpjgnckkaaGreatDoor
set_option maxRecDepth 100000
set_option maxHeartbeats 8000000
open Go.RowKit
open Par (Tok Po Tr nx atP isT ba Res Stm Prm Chn Prc Prg)
theorem stmtD {w:World}{rb e:Nat}{bl pr:Int}{ts:List Tok}{v:Value}{Bk:List Tok→Res (List Stm)}(n0:(nx ts).2.2≠Par.wIf)(n1:(nx ts).2.2≠Par.wWhile)(n2:(nx ts).2.2≠Par.wVar)(n3:(nx ts).2.2≠Par.wSend)(n4:(nx ts).2.2≠Par.wTake)(hE:ExpC rb e bl pr (Par.exprR e 12))(hBk:BlkC rb e bl pr Bk)(h:Rd w rb e bl pr ts v):
 Calls Tryz.prog 107 #[.pointer (some ⟨rb,0,none⟩)] w (Post w rb e bl pr (Par.stmF e Bk ts) (VT w.heap.size)):=by
 obtain⟨res,hres⟩:∃res,res=Par.stmF e Bk ts:=⟨_,rfl⟩
 rw[←hres]
 have HRS:Hid (res=Par.stmF e Bk ts):=hres
 have f2:=fTok2
 have HE:Hid (ExpC rb e bl pr (Par.exprR e 12)):=hE
 have HK:Hid (BlkC rb e bl pr Bk):=hBk
 have hlt:=h.lt
 obtain⟨w0,hw0⟩:∃w0,w0=w.alloc (.cells #[.int .i64 0,.int .i64 0,.string ⟨#[]⟩,.string ⟨#[]⟩,.bool false,.slice none 0 0,.int .i64 0,.int .i64 0,.int .i64 0,.int .i64 0,.string ⟨#[]⟩,.slice none 0 0,.slice none 0 0,.slice none 0 0,.slice none 0 0] 136):=⟨_,rfl⟩
 have hb0:Below w.heap.size w w0:=by rw[hw0];exact(Below.refl _ _).alloc (Nat.le_refl _) _
 have hs0:w0.heap.size=w.heap.size+1:=by rw[hw0];simp
 have hn0:w0.heap[w.heap.size]? =some (.cells #[.int .i64 0,.int .i64 0,.string ⟨#[]⟩,.string ⟨#[]⟩,.bool false,.slice none 0 0,.int .i64 0,.int .i64 0,.int .i64 0,.int .i64 0,.string ⟨#[]⟩,.slice none 0 0,.slice none 0 0,.slice none 0 0,.slice none 0 0] 136 (0,0)):=by rw[hw0];exact heap_at_alloc _ _ _ rfl
 have hrd0:Rd w0 rb e bl pr ts v:=h.keeps hb0 h.lt
 have HAT:=rAt_any hrd0
 obtain⟨p,hp0⟩:∃p:Int,p=(atP e ts:Nat):=⟨_,rfl⟩
 rw[←hp0] at HAT
 have HP0:Hid (p=(atP e ts:Nat)):=hp0
 obtain⟨sb,hsb⟩:∃sb,sb=w.heap.size+1:=⟨_,rfl⟩
 obtain⟨wb,hwb⟩:∃wb,wb=w0.alloc (.cells #[.int .i64 0,.int .i64 p,.string ⟨#[]⟩,.string ⟨#[]⟩,.bool false,.slice none 0 0,.int .i64 0,.int .i64 0,.int .i64 0,.int .i64 0,.string ⟨#[]⟩,.slice none 0 0,.slice none 0 0,.slice none 0 0,.slice none 0 0] 136):=⟨_,rfl⟩
 have hbb:Below w0.heap.size w0 wb:=by rw[hwb];exact(Below.refl _ _).alloc (Nat.le_refl _) _
 have hnb:wb.heap[w.heap.size]? =some (.cells #[.int .i64 0,.int .i64 0,.string ⟨#[]⟩,.string ⟨#[]⟩,.bool false,.slice none 0 0,.int .i64 0,.int .i64 0,.int .i64 0,.int .i64 0,.string ⟨#[]⟩,.slice none 0 0,.slice none 0 0,.slice none 0 0,.slice none 0 0] 136 (0,0)):=(hbb.block _ (by omega)).trans hn0
 have hsbk:wb.heap[sb]? =some (.cells #[.int .i64 0,.int .i64 p,.string ⟨#[]⟩,.string ⟨#[]⟩,.bool false,.slice none 0 0,.int .i64 0,.int .i64 0,.int .i64 0,.int .i64 0,.string ⟨#[]⟩,.slice none 0 0,.slice none 0 0,.slice none 0 0,.slice none 0 0] 136 (0,0)):=by rw[hsb,←hs0,hwb];exact heap_at_alloc _ _ _ rfl
 have hrdb:Rd wb rb e bl pr ts v:=hrd0.keeps hbb hrd0.lt
 have HNX:=rNext_any hrdb
 have HGb:Hid (Fr w.heap.size rb w wb):=(Fr.of_below hb0).trans (Fr.of_below (hbb.mono (by omega)))
 have HRb:Hid (Rd wb rb e bl pr ts v):=hrdb
 have HNb:Hid (wb.heap[w.heap.size]? =some (.cells #[.int .i64 0,.int .i64 0,.string ⟨#[]⟩,.string ⟨#[]⟩,.bool false,.slice none 0 0,.int .i64 0,.int .i64 0,.int .i64 0,.int .i64 0,.string ⟨#[]⟩,.slice none 0 0,.slice none 0 0,.slice none 0 0,.slice none 0 0] 136 (0,0))∧wb.heap[sb]? =some (.cells #[.int .i64 0,.int .i64 p,.string ⟨#[]⟩,.string ⟨#[]⟩,.bool false,.slice none 0 0,.int .i64 0,.int .i64 0,.int .i64 0,.int .i64 0,.string ⟨#[]⟩,.slice none 0 0,.slice none 0 0,.slice none 0 0,.slice none 0 0] 136 (0,0))):=⟨hnb,hsbk⟩
 obtain⟨tx,htx⟩:∃tx,tx=(nx ts).2.2:=⟨_,rfl⟩
 rw[←htx] at HNX n0 n1 n2 n3 n4
 have N0:Hid (tx≠Par.wIf):=n0
 have N1:Hid (tx≠Par.wWhile):=n1
 have N2:Hid (tx≠Par.wVar):=n2
 have N3:Hid (tx≠Par.wSend):=n3
 have N4:Hid (tx≠Par.wTake):=n4
 clear n0 n1 n2 n3 n4
 have HTX:Hid (tx=(nx ts).2.2):=htx
 clear h hres hE hBk hb0 hn0 hrd0 hp0 hbb hnb hsbk hrdb htx
 go_enter Tryz.func107,Tryz.ntmps107
 go_wp2_with fail
 rw[←hw0]
 clear hw0
 refine HAT.mono ?_
 rintro x w0' ⟨rfl,hw0'⟩
 subst hw0'
 go_wp2_with fail
 rw[←hwb,←hsb]
 have hsl:w.heap.size<sb:=by omega
 clear hwb hsb
 refine HNX.mono ?_
 rintro x w2 ⟨rfl,hb2⟩
 have hlb:=lt_of_block HNb.out.2
 have HN2:Hid (w2.heap[w.heap.size]? =some (.cells #[.int .i64 0,.int .i64 0,.string ⟨#[]⟩,.string ⟨#[]⟩,.bool false,.slice none 0 0,.int .i64 0,.int .i64 0,.int .i64 0,.int .i64 0,.string ⟨#[]⟩,.slice none 0 0,.slice none 0 0,.slice none 0 0,.slice none 0 0] 136 (0,0))):=(hb2.block _ (lt_of_block HNb.out.1)).trans HNb.out.1
 have HS2:Hid (w2.heap[sb]? =some (.cells #[.int .i64 0,.int .i64 p,.string ⟨#[]⟩,.string ⟨#[]⟩,.bool false,.slice none 0 0,.int .i64 0,.int .i64 0,.int .i64 0,.int .i64 0,.string ⟨#[]⟩,.slice none 0 0,.slice none 0 0,.slice none 0 0,.slice none 0 0] 136 (0,0))):=(hb2.block _ hlb).trans HNb.out.2
 have HF2:Hid (Fr w.heap.size rb w w2):=HGb.out.trans (Fr.of_below (hb2.mono (by omega)))
 have HR2:Hid (Rd w2 rb e bl pr ts v):=HRb.out.keeps hb2 HRb.out.lt
 have hl2:sb<w2.heap.size:=lt_of_block HS2.out
 clear hb2 HAT HNX hlb
 have h0:¬tx=Par.wIf:=N0.out
 have h1:¬tx=Par.wWhile:=N1.out
 have h2:¬tx=Par.wVar:=N2.out
 have h3:¬tx=Par.wSend:=N3.out
 have h4:¬tx=Par.wTake:=N4.out
 by_cases h5:tx=Par.wDo
 ·have q0:((ba tx).toList==[105,102])=false:=by rw[ba_list];exact beq_eq_false_iff_ne.mpr (fun h=>h0 h)
  have q1:((ba tx).toList==[119,104,105,108,101])=false:=by rw[ba_list];exact beq_eq_false_iff_ne.mpr (fun h=>h1 h)
  have q2:((ba tx).toList==[118,97,114])=false:=by rw[ba_list];exact beq_eq_false_iff_ne.mpr (fun h=>h2 h)
  have q3:((ba tx).toList==[115,101,110,100])=false:=by rw[ba_list];exact beq_eq_false_iff_ne.mpr (fun h=>h3 h)
  have q4:((ba tx).toList==[116,97,107,101])=false:=by rw[ba_list];exact beq_eq_false_iff_ne.mpr (fun h=>h4 h)
  have q5:((ba tx).toList==[100,111])=true:=by rw[ba_list,h5];decide
  obtain⟨t,r0,rfl⟩:∃t r0,ts=t::r0:=by
   cases ts with
   | nil=>have h9:=HTX.out;rw[h5] at h9;cases h9
   | cons t r0=>exact⟨t,r0,rfl⟩
  have htt:t.2.2=tx:=HTX.out.symm
  obtain⟨q0,hq0⟩:∃q0,q0=atP e r0:=⟨_,rfl⟩
  have HQ0:Hid (q0=atP e r0):=hq0
  have HEQ:Hid (res=(fun ts=>(Par.nameR e ts).bind fun s r1=>(Par.callR e q0 s r1).bind fun x r2=>Par.semi e (.mk 7 p (ba []) (ba []) false [] x [] []) r2) r0):=by
   show _=_
   rw[HRS.out]
   unfold Par.stmF
   rw[if_neg (by rw[←HTX.out];exact h0)]
   rw[if_neg (by rw[←HTX.out];exact h1)]
   rw[if_neg (by rw[←HTX.out];exact h2)]
   rw[if_neg (by rw[←HTX.out];exact h3)]
   rw[if_neg (by rw[←HTX.out];exact h4)]
   rw[if_pos (by rw[←HTX.out];exact h5)]
   rw[HP0.out,hq0]
   rfl
  clear hq0
  have HTK:=rTake_any HR2.out
  clear htt h5
  go_wp2_with fail
  refine HTK.mono ?_
  rintro x w3 ⟨rfl,hq3,v3,hrd3⟩
  have HGw3:Hid (GoF w.heap.size w w3 rb e bl pr res (fun ts=>(Par.nameR e ts).bind fun s r1=>(Par.callR e q0 s r1).bind fun x r2=>Par.semi e (.mk 7 p (ba []) (ba []) false [] x [] []) r2) r0 v3):=⟨HF2.out.trans (Fr.of_grown hq3 (by omega)),hrd3,HEQ.out,hlt⟩
  have HNw3:Hid (w3.heap[w.heap.size]? =some (.cells #[.int .i64 0,.int .i64 0,.string ⟨#[]⟩,.string ⟨#[]⟩,.bool false,.slice none 0 0,.int .i64 0,.int .i64 0,.int .i64 0,.int .i64 0,.string ⟨#[]⟩,.slice none 0 0,.slice none 0 0,.slice none 0 0,.slice none 0 0] 136 (0,0))):=go_blk hq3 HN2.out (by omega)
  have HSw3:Hid (w3.heap[sb]? =some (.cells #[.int .i64 0,.int .i64 p,.string ⟨#[]⟩,.string ⟨#[]⟩,.bool false,.slice none 0 0,.int .i64 0,.int .i64 0,.int .i64 0,.int .i64 0,.string ⟨#[]⟩,.slice none 0 0,.slice none 0 0,.slice none 0 0,.slice none 0 0] 136 (0,0))):=go_blk hq3 HS2.out (by omega)
  have hlw3:sb<w3.heap.size:=lt_of_block HSw3.out
  clear hq3 hrd3 HTK
  have HA3:=rAt_any HGw3.out.rd
  rw[←HQ0.out] at HA3
  go_wp2_with fail
  refine HA3.mono ?_
  rintro x w3' ⟨rfl,hw3'⟩
  have hw3s:=hw3'.symm
  subst hw3s
  clear HA3
  go_wp2_with fail
  refine(rName_any HGw3.out.rd).mono ?_
  intro x w4 hp
  rcases goF_of HGw3.out (by omega) hp with⟨s,r4,u,v4,rfl,⟨rfl,hsz⟩,hq4,hg4⟩|⟨hgr,c,q,hr,rfl,r,v',hrd⟩
  rotate_left
  ·exact⟨rfl,hgr.grown,.inr ⟨c,q,hr,rfl,r,v',hrd⟩⟩
  have HNw4:Hid (w4.heap[w.heap.size]? =some (.cells #[.int .i64 0,.int .i64 0,.string ⟨#[]⟩,.string ⟨#[]⟩,.bool false,.slice none 0 0,.int .i64 0,.int .i64 0,.int .i64 0,.int .i64 0,.string ⟨#[]⟩,.slice none 0 0,.slice none 0 0,.slice none 0 0,.slice none 0 0] 136 (0,0))):=go_blk hq4 HNw3.out (by omega)
  have HSw4:Hid (w4.heap[sb]? =some (.cells #[.int .i64 0,.int .i64 p,.string ⟨#[]⟩,.string ⟨#[]⟩,.bool false,.slice none 0 0,.int .i64 0,.int .i64 0,.int .i64 0,.int .i64 0,.string ⟨#[]⟩,.slice none 0 0,.slice none 0 0,.slice none 0 0,.slice none 0 0] 136 (0,0))):=go_blk hq4 HSw3.out (by omega)
  have hlw4:sb<w4.heap.size:=lt_of_block HSw4.out
  have HGw4:Hid (GoF w.heap.size w w4 rb e bl pr res (fun ts=>(Par.callR e q0 s ts).bind fun x r2=>Par.semi e (.mk 7 p (ba []) (ba []) false [] x [] []) r2) r4 v4):=hg4
  have HSZ:Hid (s.size≤maxLen):=hsz
  have hlw4:sb<w4.heap.size:=lt_of_block HSw4.out
  clear hp hq4 hg4 hsz
  go_wp2_with fail
  refine(callC HE.out HGw4.out.rd q0 s HSZ.out).mono ?_
  intro x w5 hp
  rcases goF_of (P:=Par.callR e q0 s) HGw4.out (by omega) hp with⟨y,r5,u,v5,rfl,⟨z0,z1,z2,z3,z4,z5,m5,d5,z6,m6,d6,rfl,hy⟩,hq5,hg5⟩|⟨hgr,c,q,hr,rfl,r,v',hrd⟩
  rotate_left
  ·exact⟨rfl,hgr.grown,.inr ⟨c,q,hr,rfl,r,v',hrd⟩⟩
  have HNw5:Hid (w5.heap[w.heap.size]? =some (.cells #[.int .i64 0,.int .i64 0,.string ⟨#[]⟩,.string ⟨#[]⟩,.bool false,.slice none 0 0,.int .i64 0,.int .i64 0,.int .i64 0,.int .i64 0,.string ⟨#[]⟩,.slice none 0 0,.slice none 0 0,.slice none 0 0,.slice none 0 0] 136 (0,0))):=go_blk hq5 HNw4.out (by omega)
  have HSw5:Hid (w5.heap[sb]? =some (.cells #[.int .i64 0,.int .i64 p,.string ⟨#[]⟩,.string ⟨#[]⟩,.bool false,.slice none 0 0,.int .i64 0,.int .i64 0,.int .i64 0,.int .i64 0,.string ⟨#[]⟩,.slice none 0 0,.slice none 0 0,.slice none 0 0,.slice none 0 0] 136 (0,0))):=go_blk hq5 HSw4.out (by omega)
  have hlw5:sb<w5.heap.size:=lt_of_block HSw5.out
  have HYw5:Hid (TrIs w5 (fun b=>sb<b) y [.int .i64 z0,.int .i64 z1,.int .i64 z2,.int .i64 z3,.string z4,.slice z5 m5 d5,.slice z6 m6 d6]):=TrIs.mono hy fun b hb _=>by omega
  have hlw5:sb<w5.heap.size:=lt_of_block HSw5.out
  obtain⟨⟨a0,a1,a2,a3,a4,a5,a6,a7,a8,a9,a10,a11,a12,a13,a14⟩,hz⟩:=blkT HSw5.out
  have hz0:=hz 0
  have hz6:=hz 6
  have hz7:=hz 7
  have hz8:=hz 8
  have hz9:=hz 9
  have hz10:=hz 10
  have hz11:=hz 11
  have hz12:=hz 12
  obtain⟨w6,hwn⟩:∃wn,wn=((((((((w5).setCell ⟨sb,0,none⟩ (.int .i64 7)).setCell ⟨sb,6,none⟩ (.int .i64 z0)).setCell ⟨sb,7,none⟩ (.int .i64 z1)).setCell ⟨sb,8,none⟩ (.int .i64 z2)).setCell ⟨sb,9,none⟩ (.int .i64 z3)).setCell ⟨sb,10,none⟩ (.string z4)).setCell ⟨sb,11,none⟩ (.slice z5 m5 d5)).setCell ⟨sb,12,none⟩ (.slice z6 m6 d6):=⟨_,rfl⟩
  have hbn:Below sb w5 w6:=by
   rw[hwn]
   iterate 8 refine Below.setCell ?_ (by simp) _
   exact Below.refl _ _
  have hkn:Keeps (fun b=>sb<b) w5 w6:=⟨hbn.size,fun b hb _=>by rw[hwn];iterate 8 rw[Below.heap_setCell _ _ _ _ (by show b≠sb;omega)]⟩
  have HNw6:Hid (w6.heap[w.heap.size]? =some (.cells #[.int .i64 0,.int .i64 0,.string ⟨#[]⟩,.string ⟨#[]⟩,.bool false,.slice none 0 0,.int .i64 0,.int .i64 0,.int .i64 0,.int .i64 0,.string ⟨#[]⟩,.slice none 0 0,.slice none 0 0,.slice none 0 0,.slice none 0 0] 136 (0,0))):=(hbn.block _ (by omega)).trans HNw5.out
  have HSw6:Hid (w6.heap[sb]? =some (.cells #[.int .i64 7,.int .i64 p,.string ⟨#[]⟩,.string ⟨#[]⟩,.bool false,.slice none 0 0,.int .i64 z0,.int .i64 z1,.int .i64 z2,.int .i64 z3,.string z4,.slice z5 m5 d5,.slice z6 m6 d6,.slice none 0 0,.slice none 0 0] 136 (0,0))):=by
   have h9:=HSw5.out
   show _=_
   rw[hwn]
   simp[World.setCell,Array.getElem?_modify,h9]
  have HGw6:Hid (GoF w.heap.size w w6 rb e bl pr res (fun ts=>(Par.must e [59] ts).bind fun _ r=>.ok (.mk 7 p (ba []) (ba []) false [] y [] []) r) r5 v5):=hg5.later (hbn.mono (by omega))
  have hlw6:sb<w6.heap.size:=lt_of_block HSw6.out
  have HYw6:Hid (TrIs w6 (fun b=>sb<b) y [.int .i64 z0,.int .i64 z1,.int .i64 z2,.int .i64 z3,.string z4,.slice z5 m5 d5,.slice z6 m6 d6]):=HYw5.out.keeps hkn
  clear hz hbn hkn
  clear hp hq5 hg5 hy
  go_wp2_with fail
  rw[←hwn]
  clear hwn a0 a1 a2 a3 a4 a5 a6 a7 a8 a9 a10 a11 a12 a13 a14
  refine(rMust_any ⟨#[59]⟩ (by decide) HGw6.out.rd).mono ?_
  intro x wz hp
  rcases goF_of (P:=Par.must e [59]) HGw6.out (by omega) hp with⟨a9,r9,u,v9,rfl,rfl,hq9,hg9⟩|⟨hgr,c,q,hr,rfl,r,v',hrd⟩
  rotate_left
  ·exact⟨rfl,hgr.grown,.inr ⟨c,q,hr,rfl,r,v',hrd⟩⟩
  have HST:Hid (StIs wz (fun b=>sb<b) _ [.int .i64 7,.int .i64 p,.string ⟨#[]⟩,.string ⟨#[]⟩,.bool false,.slice none 0 0,.int .i64 z0,.int .i64 z1,.int .i64 z2,.int .i64 z3,.string z4,.slice z5 m5 d5,.slice z6 m6 d6,.slice none 0 0,.slice none 0 0]):=StIs.keeps (StIs.of (a:=[]) (b:=[]) (by decide) (by decide) (labNone _ _) HYw6.out (RwV.none _ _ _ _) (RwV.none _ _ _ _)) (Keeps.of_grown hq9 fun b hb=>by simp;omega)
  have hn9:=go_blk hq9 HNw6.out (by omega)
  have hs9:=go_blk hq9 HSw6.out (by omega)
  have HN9:Hid (wz.heap[w.heap.size]? =some (.cells #[.int .i64 0,.int .i64 0,.string ⟨#[]⟩,.string ⟨#[]⟩,.bool false,.slice none 0 0,.int .i64 0,.int .i64 0,.int .i64 0,.int .i64 0,.string ⟨#[]⟩,.slice none 0 0,.slice none 0 0,.slice none 0 0,.slice none 0 0] 136 (0,0))):=hn9
  have HG9:Hid _:=hg9
  obtain⟨⟨b0,b1,b2,b3,b4,b5,b6,b7,b8,b9,b10,b11,b12,b13,b14⟩,hzn⟩:=blkT hn9
  obtain⟨⟨x0,x1,x2,x3,x4,x5,x6,x7,x8,x9,x10,x11,x12,x13,x14⟩,_⟩:=blkT hs9
  have y0:=hzn 0
  have y1:=hzn 1
  have y2:=hzn 2
  have y3:=hzn 3
  have y4:=hzn 4
  have y5:=hzn 5
  have y6:=hzn 6
  have y7:=hzn 7
  have y8:=hzn 8
  have y9:=hzn 9
  have y10:=hzn 10
  have y11:=hzn 11
  have y12:=hzn 12
  have y13:=hzn 13
  have y14:=hzn 14
  have l9:=lt_of_block hn9
  have l8:=lt_of_block hs9
  clear hp hq9 hg9 hn9 hs9 hzn
  go_wp2
  obtain⟨wf,hwf⟩:∃wf,wf=(((((((((((((((wz).setCell ⟨w.heap.size,0,none⟩ (.int .i64 7)).setCell ⟨w.heap.size,1,none⟩ (.int .i64 p)).setCell ⟨w.heap.size,2,none⟩ (.string ⟨#[]⟩)).setCell ⟨w.heap.size,3,none⟩ (.string ⟨#[]⟩)).setCell ⟨w.heap.size,4,none⟩ (.bool false)).setCell ⟨w.heap.size,5,none⟩ (.slice none 0 0)).setCell ⟨w.heap.size,6,none⟩ (.int .i64 z0)).setCell ⟨w.heap.size,7,none⟩ (.int .i64 z1)).setCell ⟨w.heap.size,8,none⟩ (.int .i64 z2)).setCell ⟨w.heap.size,9,none⟩ (.int .i64 z3)).setCell ⟨w.heap.size,10,none⟩ (.string z4)).setCell ⟨w.heap.size,11,none⟩ (.slice z5 m5 d5)).setCell ⟨w.heap.size,12,none⟩ (.slice z6 m6 d6)).setCell ⟨w.heap.size,13,none⟩ (.slice none 0 0)).setCell ⟨w.heap.size,14,none⟩ (.slice none 0 0):=⟨_,rfl⟩
  have hbf:Below w.heap.size wz wf:=by
   rw[hwf]
   iterate 15 refine Below.setCell ?_ (by simp) _
   exact Below.refl _ _
  have hkf:Keeps (fun b=>sb<b) wz wf:=⟨hbf.size,fun b hb _=>by rw[hwf];iterate 15 rw[Below.heap_setCell _ _ _ _ (by show b≠w.heap.size;omega)]⟩
  have hnf:wf.heap[w.heap.size]? =some (.cells #[.int .i64 7,.int .i64 p,.string ⟨#[]⟩,.string ⟨#[]⟩,.bool false,.slice none 0 0,.int .i64 z0,.int .i64 z1,.int .i64 z2,.int .i64 z3,.string z4,.slice z5 m5 d5,.slice z6 m6 d6,.slice none 0 0,.slice none 0 0] 136 (0,0)):=by rw[hwf];simp[World.setCell,Array.getElem?_modify,HN9.out]
  rw[←hwf]
  exact stm_ret HG9.out hnf HST.out hkf hbf (by omega) rfl
 by_cases h6:tx=Par.wReturn
 ·have q0:((ba tx).toList==[105,102])=false:=by rw[ba_list];exact beq_eq_false_iff_ne.mpr (fun h=>h0 h)
  have q1:((ba tx).toList==[119,104,105,108,101])=false:=by rw[ba_list];exact beq_eq_false_iff_ne.mpr (fun h=>h1 h)
  have q2:((ba tx).toList==[118,97,114])=false:=by rw[ba_list];exact beq_eq_false_iff_ne.mpr (fun h=>h2 h)
  have q3:((ba tx).toList==[115,101,110,100])=false:=by rw[ba_list];exact beq_eq_false_iff_ne.mpr (fun h=>h3 h)
  have q4:((ba tx).toList==[116,97,107,101])=false:=by rw[ba_list];exact beq_eq_false_iff_ne.mpr (fun h=>h4 h)
  have q5:((ba tx).toList==[100,111])=false:=by rw[ba_list];exact beq_eq_false_iff_ne.mpr (fun h=>h5 h)
  have q6:((ba tx).toList==[114,101,116,117,114,110])=true:=by rw[ba_list,h6];decide
  obtain⟨t,r0,rfl⟩:∃t r0,ts=t::r0:=by
   cases ts with
   | nil=>have h9:=HTX.out;rw[h6] at h9;cases h9
   | cons t r0=>exact⟨t,r0,rfl⟩
  have htt:t.2.2=tx:=HTX.out.symm
  have HEQ:Hid (res=(fun ts=>(Par.exprR e 12 ts).bind fun x r1=>Par.semi e (.mk 8 p (ba []) (ba []) false [] x [] []) r1) r0):=by
   show _=_
   rw[HRS.out]
   unfold Par.stmF
   rw[if_neg (by rw[←HTX.out];exact h0)]
   rw[if_neg (by rw[←HTX.out];exact h1)]
   rw[if_neg (by rw[←HTX.out];exact h2)]
   rw[if_neg (by rw[←HTX.out];exact h3)]
   rw[if_neg (by rw[←HTX.out];exact h4)]
   rw[if_neg (by rw[←HTX.out];exact h5)]
   rw[if_pos (by rw[←HTX.out];exact h6)]
   rw[HP0.out]
   rfl
  have HTK:=rTake_any HR2.out
  clear htt h6
  go_wp2_with fail
  refine HTK.mono ?_
  rintro x w3 ⟨rfl,hq3,v3,hrd3⟩
  have HGw3:Hid (GoF w.heap.size w w3 rb e bl pr res (fun ts=>(Par.exprR e 12 ts).bind fun x r1=>Par.semi e (.mk 8 p (ba []) (ba []) false [] x [] []) r1) r0 v3):=⟨HF2.out.trans (Fr.of_grown hq3 (by omega)),hrd3,HEQ.out,hlt⟩
  have HNw3:Hid (w3.heap[w.heap.size]? =some (.cells #[.int .i64 0,.int .i64 0,.string ⟨#[]⟩,.string ⟨#[]⟩,.bool false,.slice none 0 0,.int .i64 0,.int .i64 0,.int .i64 0,.int .i64 0,.string ⟨#[]⟩,.slice none 0 0,.slice none 0 0,.slice none 0 0,.slice none 0 0] 136 (0,0))):=go_blk hq3 HN2.out (by omega)
  have HSw3:Hid (w3.heap[sb]? =some (.cells #[.int .i64 0,.int .i64 p,.string ⟨#[]⟩,.string ⟨#[]⟩,.bool false,.slice none 0 0,.int .i64 0,.int .i64 0,.int .i64 0,.int .i64 0,.string ⟨#[]⟩,.slice none 0 0,.slice none 0 0,.slice none 0 0,.slice none 0 0] 136 (0,0))):=go_blk hq3 HS2.out (by omega)
  have hlw3:sb<w3.heap.size:=lt_of_block HSw3.out
  clear hq3 hrd3 HTK
  go_wp2_with fail
  refine(HE.out _ _ _ HGw3.out.rd).mono ?_
  intro x w4 hp
  rcases goF_of HGw3.out (by omega) hp with⟨y,r4,u,v4,rfl,⟨z0,z1,z2,z3,z4,z5,m5,d5,z6,m6,d6,rfl,hy⟩,hq4,hg4⟩|⟨hgr,c,q,hr,rfl,r,v',hrd⟩
  rotate_left
  ·exact⟨rfl,hgr.grown,.inr ⟨c,q,hr,rfl,r,v',hrd⟩⟩
  have HNw4:Hid (w4.heap[w.heap.size]? =some (.cells #[.int .i64 0,.int .i64 0,.string ⟨#[]⟩,.string ⟨#[]⟩,.bool false,.slice none 0 0,.int .i64 0,.int .i64 0,.int .i64 0,.int .i64 0,.string ⟨#[]⟩,.slice none 0 0,.slice none 0 0,.slice none 0 0,.slice none 0 0] 136 (0,0))):=go_blk hq4 HNw3.out (by omega)
  have HSw4:Hid (w4.heap[sb]? =some (.cells #[.int .i64 0,.int .i64 p,.string ⟨#[]⟩,.string ⟨#[]⟩,.bool false,.slice none 0 0,.int .i64 0,.int .i64 0,.int .i64 0,.int .i64 0,.string ⟨#[]⟩,.slice none 0 0,.slice none 0 0,.slice none 0 0,.slice none 0 0] 136 (0,0))):=go_blk hq4 HSw3.out (by omega)
  have hlw4:sb<w4.heap.size:=lt_of_block HSw4.out
  have HYw4:Hid (TrIs w4 (fun b=>sb<b) y [.int .i64 z0,.int .i64 z1,.int .i64 z2,.int .i64 z3,.string z4,.slice z5 m5 d5,.slice z6 m6 d6]):=TrIs.mono hy fun b hb _=>by omega
  have hlw4:sb<w4.heap.size:=lt_of_block HSw4.out
  obtain⟨⟨a0,a1,a2,a3,a4,a5,a6,a7,a8,a9,a10,a11,a12,a13,a14⟩,hz⟩:=blkT HSw4.out
  have hz0:=hz 0
  have hz6:=hz 6
  have hz7:=hz 7
  have hz8:=hz 8
  have hz9:=hz 9
  have hz10:=hz 10
  have hz11:=hz 11
  have hz12:=hz 12
  obtain⟨w5,hwn⟩:∃wn,wn=((((((((w4).setCell ⟨sb,0,none⟩ (.int .i64 8)).setCell ⟨sb,6,none⟩ (.int .i64 z0)).setCell ⟨sb,7,none⟩ (.int .i64 z1)).setCell ⟨sb,8,none⟩ (.int .i64 z2)).setCell ⟨sb,9,none⟩ (.int .i64 z3)).setCell ⟨sb,10,none⟩ (.string z4)).setCell ⟨sb,11,none⟩ (.slice z5 m5 d5)).setCell ⟨sb,12,none⟩ (.slice z6 m6 d6):=⟨_,rfl⟩
  have hbn:Below sb w4 w5:=by
   rw[hwn]
   iterate 8 refine Below.setCell ?_ (by simp) _
   exact Below.refl _ _
  have hkn:Keeps (fun b=>sb<b) w4 w5:=⟨hbn.size,fun b hb _=>by rw[hwn];iterate 8 rw[Below.heap_setCell _ _ _ _ (by show b≠sb;omega)]⟩
  have HNw5:Hid (w5.heap[w.heap.size]? =some (.cells #[.int .i64 0,.int .i64 0,.string ⟨#[]⟩,.string ⟨#[]⟩,.bool false,.slice none 0 0,.int .i64 0,.int .i64 0,.int .i64 0,.int .i64 0,.string ⟨#[]⟩,.slice none 0 0,.slice none 0 0,.slice none 0 0,.slice none 0 0] 136 (0,0))):=(hbn.block _ (by omega)).trans HNw4.out
  have HSw5:Hid (w5.heap[sb]? =some (.cells #[.int .i64 8,.int .i64 p,.string ⟨#[]⟩,.string ⟨#[]⟩,.bool false,.slice none 0 0,.int .i64 z0,.int .i64 z1,.int .i64 z2,.int .i64 z3,.string z4,.slice z5 m5 d5,.slice z6 m6 d6,.slice none 0 0,.slice none 0 0] 136 (0,0))):=by
   have h9:=HSw4.out
   show _=_
   rw[hwn]
   simp[World.setCell,Array.getElem?_modify,h9]
  have HGw5:Hid (GoF w.heap.size w w5 rb e bl pr res (fun ts=>(Par.must e [59] ts).bind fun _ r=>.ok (.mk 8 p (ba []) (ba []) false [] y [] []) r) r4 v4):=hg4.later (hbn.mono (by omega))
  have hlw5:sb<w5.heap.size:=lt_of_block HSw5.out
  have HYw5:Hid (TrIs w5 (fun b=>sb<b) y [.int .i64 z0,.int .i64 z1,.int .i64 z2,.int .i64 z3,.string z4,.slice z5 m5 d5,.slice z6 m6 d6]):=HYw4.out.keeps hkn
  clear hz hbn hkn
  clear hp hq4 hg4 hy
  go_wp2_with fail
  rw[←hwn]
  clear hwn a0 a1 a2 a3 a4 a5 a6 a7 a8 a9 a10 a11 a12 a13 a14
  refine(rMust_any ⟨#[59]⟩ (by decide) HGw5.out.rd).mono ?_
  intro x wz hp
  rcases goF_of (P:=Par.must e [59]) HGw5.out (by omega) hp with⟨a9,r9,u,v9,rfl,rfl,hq9,hg9⟩|⟨hgr,c,q,hr,rfl,r,v',hrd⟩
  rotate_left
  ·exact⟨rfl,hgr.grown,.inr ⟨c,q,hr,rfl,r,v',hrd⟩⟩
  have HST:Hid (StIs wz (fun b=>sb<b) _ [.int .i64 8,.int .i64 p,.string ⟨#[]⟩,.string ⟨#[]⟩,.bool false,.slice none 0 0,.int .i64 z0,.int .i64 z1,.int .i64 z2,.int .i64 z3,.string z4,.slice z5 m5 d5,.slice z6 m6 d6,.slice none 0 0,.slice none 0 0]):=StIs.keeps (StIs.of (a:=[]) (b:=[]) (by decide) (by decide) (labNone _ _) HYw5.out (RwV.none _ _ _ _) (RwV.none _ _ _ _)) (Keeps.of_grown hq9 fun b hb=>by simp;omega)
  have hn9:=go_blk hq9 HNw5.out (by omega)
  have hs9:=go_blk hq9 HSw5.out (by omega)
  have HN9:Hid (wz.heap[w.heap.size]? =some (.cells #[.int .i64 0,.int .i64 0,.string ⟨#[]⟩,.string ⟨#[]⟩,.bool false,.slice none 0 0,.int .i64 0,.int .i64 0,.int .i64 0,.int .i64 0,.string ⟨#[]⟩,.slice none 0 0,.slice none 0 0,.slice none 0 0,.slice none 0 0] 136 (0,0))):=hn9
  have HG9:Hid _:=hg9
  obtain⟨⟨b0,b1,b2,b3,b4,b5,b6,b7,b8,b9,b10,b11,b12,b13,b14⟩,hzn⟩:=blkT hn9
  obtain⟨⟨x0,x1,x2,x3,x4,x5,x6,x7,x8,x9,x10,x11,x12,x13,x14⟩,_⟩:=blkT hs9
  have y0:=hzn 0
  have y1:=hzn 1
  have y2:=hzn 2
  have y3:=hzn 3
  have y4:=hzn 4
  have y5:=hzn 5
  have y6:=hzn 6
  have y7:=hzn 7
  have y8:=hzn 8
  have y9:=hzn 9
  have y10:=hzn 10
  have y11:=hzn 11
  have y12:=hzn 12
  have y13:=hzn 13
  have y14:=hzn 14
  have l9:=lt_of_block hn9
  have l8:=lt_of_block hs9
  clear hp hq9 hg9 hn9 hs9 hzn
  go_wp2
  obtain⟨wf,hwf⟩:∃wf,wf=(((((((((((((((wz).setCell ⟨w.heap.size,0,none⟩ (.int .i64 8)).setCell ⟨w.heap.size,1,none⟩ (.int .i64 p)).setCell ⟨w.heap.size,2,none⟩ (.string ⟨#[]⟩)).setCell ⟨w.heap.size,3,none⟩ (.string ⟨#[]⟩)).setCell ⟨w.heap.size,4,none⟩ (.bool false)).setCell ⟨w.heap.size,5,none⟩ (.slice none 0 0)).setCell ⟨w.heap.size,6,none⟩ (.int .i64 z0)).setCell ⟨w.heap.size,7,none⟩ (.int .i64 z1)).setCell ⟨w.heap.size,8,none⟩ (.int .i64 z2)).setCell ⟨w.heap.size,9,none⟩ (.int .i64 z3)).setCell ⟨w.heap.size,10,none⟩ (.string z4)).setCell ⟨w.heap.size,11,none⟩ (.slice z5 m5 d5)).setCell ⟨w.heap.size,12,none⟩ (.slice z6 m6 d6)).setCell ⟨w.heap.size,13,none⟩ (.slice none 0 0)).setCell ⟨w.heap.size,14,none⟩ (.slice none 0 0):=⟨_,rfl⟩
  have hbf:Below w.heap.size wz wf:=by
   rw[hwf]
   iterate 15 refine Below.setCell ?_ (by simp) _
   exact Below.refl _ _
  have hkf:Keeps (fun b=>sb<b) wz wf:=⟨hbf.size,fun b hb _=>by rw[hwf];iterate 15 rw[Below.heap_setCell _ _ _ _ (by show b≠w.heap.size;omega)]⟩
  have hnf:wf.heap[w.heap.size]? =some (.cells #[.int .i64 8,.int .i64 p,.string ⟨#[]⟩,.string ⟨#[]⟩,.bool false,.slice none 0 0,.int .i64 z0,.int .i64 z1,.int .i64 z2,.int .i64 z3,.string z4,.slice z5 m5 d5,.slice z6 m6 d6,.slice none 0 0,.slice none 0 0] 136 (0,0)):=by rw[hwf];simp[World.setCell,Array.getElem?_modify,HN9.out]
  rw[←hwf]
  exact stm_ret HG9.out hnf HST.out hkf hbf (by omega) rfl
 have q0:((ba tx).toList==[105,102])=false:=by rw[ba_list];exact beq_eq_false_iff_ne.mpr (fun h=>h0 h)
 have q1:((ba tx).toList==[119,104,105,108,101])=false:=by rw[ba_list];exact beq_eq_false_iff_ne.mpr (fun h=>h1 h)
 have q2:((ba tx).toList==[118,97,114])=false:=by rw[ba_list];exact beq_eq_false_iff_ne.mpr (fun h=>h2 h)
 have q3:((ba tx).toList==[115,101,110,100])=false:=by rw[ba_list];exact beq_eq_false_iff_ne.mpr (fun h=>h3 h)
 have q4:((ba tx).toList==[116,97,107,101])=false:=by rw[ba_list];exact beq_eq_false_iff_ne.mpr (fun h=>h4 h)
 have q5:((ba tx).toList==[100,111])=false:=by rw[ba_list];exact beq_eq_false_iff_ne.mpr (fun h=>h5 h)
 have q6:((ba tx).toList==[114,101,116,117,114,110])=false:=by rw[ba_list];exact beq_eq_false_iff_ne.mpr (fun h=>h6 h)
 have HEQ:Hid (res=(fun ts=>(Par.nameR e ts).bind fun s r1=>(Par.must e [61] r1).bind fun _ r2=>(Par.exprR e 12 r2).bind fun x r3=>Par.semi e (.mk 2 p s (ba []) false [] x [] []) r3) ts):=by
  show _=_
  rw[HRS.out]
  unfold Par.stmF
  rw[if_neg (by rw[←HTX.out];exact h0)]
  rw[if_neg (by rw[←HTX.out];exact h1)]
  rw[if_neg (by rw[←HTX.out];exact h2)]
  rw[if_neg (by rw[←HTX.out];exact h3)]
  rw[if_neg (by rw[←HTX.out];exact h4)]
  rw[if_neg (by rw[←HTX.out];exact h5)]
  rw[if_neg (by rw[←HTX.out];exact h6)]
  rw[HP0.out]
  rfl
 have HGw2:Hid (GoF w.heap.size w w2 rb e bl pr res (fun ts=>(Par.nameR e ts).bind fun s r1=>(Par.must e [61] r1).bind fun _ r2=>(Par.exprR e 12 r2).bind fun x r3=>Par.semi e (.mk 2 p s (ba []) false [] x [] []) r3) ts v):=⟨HF2.out,HR2.out,HEQ.out,hlt⟩
 have HNw2:=HN2
 have HSw2:=HS2
 go_wp2_with fail
 refine(rName_any HGw2.out.rd).mono ?_
 intro x w3 hp
 rcases goF_of HGw2.out (by omega) hp with⟨s,r3,u,v3,rfl,⟨rfl,hsz⟩,hq3,hg3⟩|⟨hgr,c,q,hr,rfl,r,v',hrd⟩
 rotate_left
 ·exact⟨rfl,hgr.grown,.inr ⟨c,q,hr,rfl,r,v',hrd⟩⟩
 have HNw3:Hid (w3.heap[w.heap.size]? =some (.cells #[.int .i64 0,.int .i64 0,.string ⟨#[]⟩,.string ⟨#[]⟩,.bool false,.slice none 0 0,.int .i64 0,.int .i64 0,.int .i64 0,.int .i64 0,.string ⟨#[]⟩,.slice none 0 0,.slice none 0 0,.slice none 0 0,.slice none 0 0] 136 (0,0))):=go_blk hq3 HNw2.out (by omega)
 have HSw3:Hid (w3.heap[sb]? =some (.cells #[.int .i64 0,.int .i64 p,.string ⟨#[]⟩,.string ⟨#[]⟩,.bool false,.slice none 0 0,.int .i64 0,.int .i64 0,.int .i64 0,.int .i64 0,.string ⟨#[]⟩,.slice none 0 0,.slice none 0 0,.slice none 0 0,.slice none 0 0] 136 (0,0))):=go_blk hq3 HSw2.out (by omega)
 have hlw3:sb<w3.heap.size:=lt_of_block HSw3.out
 have HSZ:Hid (s.size≤maxLen):=hsz
 have hlw3:sb<w3.heap.size:=lt_of_block HSw3.out
 obtain⟨⟨a0,a1,a2,a3,a4,a5,a6,a7,a8,a9,a10,a11,a12,a13,a14⟩,hz⟩:=blkT HSw3.out
 have hz0:=hz 0
 have hz2:=hz 2
 obtain⟨w4,hwn⟩:∃wn,wn=((w3).setCell ⟨sb,0,none⟩ (.int .i64 2)).setCell ⟨sb,2,none⟩ (.string s):=⟨_,rfl⟩
 have hbn:Below sb w3 w4:=by
  rw[hwn]
  iterate 2 refine Below.setCell ?_ (by simp) _
  exact Below.refl _ _
 have hkn:Keeps (fun b=>sb<b) w3 w4:=⟨hbn.size,fun b hb _=>by rw[hwn];iterate 2 rw[Below.heap_setCell _ _ _ _ (by show b≠sb;omega)]⟩
 have HNw4:Hid (w4.heap[w.heap.size]? =some (.cells #[.int .i64 0,.int .i64 0,.string ⟨#[]⟩,.string ⟨#[]⟩,.bool false,.slice none 0 0,.int .i64 0,.int .i64 0,.int .i64 0,.int .i64 0,.string ⟨#[]⟩,.slice none 0 0,.slice none 0 0,.slice none 0 0,.slice none 0 0] 136 (0,0))):=(hbn.block _ (by omega)).trans HNw3.out
 have HSw4:Hid (w4.heap[sb]? =some (.cells #[.int .i64 2,.int .i64 p,.string s,.string ⟨#[]⟩,.bool false,.slice none 0 0,.int .i64 0,.int .i64 0,.int .i64 0,.int .i64 0,.string ⟨#[]⟩,.slice none 0 0,.slice none 0 0,.slice none 0 0,.slice none 0 0] 136 (0,0))):=by
  have h9:=HSw3.out
  show _=_
  rw[hwn]
  simp[World.setCell,Array.getElem?_modify,h9]
 have HGw4:Hid (GoF w.heap.size w w4 rb e bl pr res (fun ts=>(Par.must e [61] ts).bind fun _ r2=>(Par.exprR e 12 r2).bind fun x r3=>Par.semi e (.mk 2 p s (ba []) false [] x [] []) r3) r3 v3):=hg3.later (hbn.mono (by omega))
 have hlw4:sb<w4.heap.size:=lt_of_block HSw4.out
 clear hz hbn hkn
 clear hp hq3 hg3 hsz
 go_wp2_with fail
 rw[←hwn]
 clear hwn a0 a1 a2 a3 a4 a5 a6 a7 a8 a9 a10 a11 a12 a13 a14
 refine(rMust_any ⟨#[61]⟩ (by decide) HGw4.out.rd).mono ?_
 intro x w5 hp
 rcases goF_of (P:=Par.must e [61]) HGw4.out (by omega) hp with⟨a5,r5,u,v5,rfl,rfl,hq5,hg5⟩|⟨hgr,c,q,hr,rfl,r,v',hrd⟩
 rotate_left
 ·exact⟨rfl,hgr.grown,.inr ⟨c,q,hr,rfl,r,v',hrd⟩⟩
 have HNw5:Hid (w5.heap[w.heap.size]? =some (.cells #[.int .i64 0,.int .i64 0,.string ⟨#[]⟩,.string ⟨#[]⟩,.bool false,.slice none 0 0,.int .i64 0,.int .i64 0,.int .i64 0,.int .i64 0,.string ⟨#[]⟩,.slice none 0 0,.slice none 0 0,.slice none 0 0,.slice none 0 0] 136 (0,0))):=go_blk hq5 HNw4.out (by omega)
 have HSw5:Hid (w5.heap[sb]? =some (.cells #[.int .i64 2,.int .i64 p,.string s,.string ⟨#[]⟩,.bool false,.slice none 0 0,.int .i64 0,.int .i64 0,.int .i64 0,.int .i64 0,.string ⟨#[]⟩,.slice none 0 0,.slice none 0 0,.slice none 0 0,.slice none 0 0] 136 (0,0))):=go_blk hq5 HSw4.out (by omega)
 have hlw5:sb<w5.heap.size:=lt_of_block HSw5.out
 have HGw5:Hid (GoF w.heap.size w w5 rb e bl pr res (fun ts=>(Par.exprR e 12 ts).bind fun x r3=>Par.semi e (.mk 2 p s (ba []) false [] x [] []) r3) r5 v5):=hg5
 have hlw5:sb<w5.heap.size:=lt_of_block HSw5.out
 clear hp hq5 hg5
 go_wp2_with fail
 refine(HE.out _ _ _ HGw5.out.rd).mono ?_
 intro x w6 hp
 rcases goF_of HGw5.out (by omega) hp with⟨y,r6,u,v6,rfl,⟨z0,z1,z2,z3,z4,z5,m5,d5,z6,m6,d6,rfl,hy⟩,hq6,hg6⟩|⟨hgr,c,q,hr,rfl,r,v',hrd⟩
 rotate_left
 ·exact⟨rfl,hgr.grown,.inr ⟨c,q,hr,rfl,r,v',hrd⟩⟩
 have HNw6:Hid (w6.heap[w.heap.size]? =some (.cells #[.int .i64 0,.int .i64 0,.string ⟨#[]⟩,.string ⟨#[]⟩,.bool false,.slice none 0 0,.int .i64 0,.int .i64 0,.int .i64 0,.int .i64 0,.string ⟨#[]⟩,.slice none 0 0,.slice none 0 0,.slice none 0 0,.slice none 0 0] 136 (0,0))):=go_blk hq6 HNw5.out (by omega)
 have HSw6:Hid (w6.heap[sb]? =some (.cells #[.int .i64 2,.int .i64 p,.string s,.string ⟨#[]⟩,.bool false,.slice none 0 0,.int .i64 0,.int .i64 0,.int .i64 0,.int .i64 0,.string ⟨#[]⟩,.slice none 0 0,.slice none 0 0,.slice none 0 0,.slice none 0 0] 136 (0,0))):=go_blk hq6 HSw5.out (by omega)
 have hlw6:sb<w6.heap.size:=lt_of_block HSw6.out
 have HYw6:Hid (TrIs w6 (fun b=>sb<b) y [.int .i64 z0,.int .i64 z1,.int .i64 z2,.int .i64 z3,.string z4,.slice z5 m5 d5,.slice z6 m6 d6]):=TrIs.mono hy fun b hb _=>by omega
 have hlw6:sb<w6.heap.size:=lt_of_block HSw6.out
 obtain⟨⟨a0,a1,a2,a3,a4,a5,a6,a7,a8,a9,a10,a11,a12,a13,a14⟩,hz⟩:=blkT HSw6.out
 have hz6:=hz 6
 have hz7:=hz 7
 have hz8:=hz 8
 have hz9:=hz 9
 have hz10:=hz 10
 have hz11:=hz 11
 have hz12:=hz 12
 obtain⟨w7,hwn⟩:∃wn,wn=(((((((w6).setCell ⟨sb,6,none⟩ (.int .i64 z0)).setCell ⟨sb,7,none⟩ (.int .i64 z1)).setCell ⟨sb,8,none⟩ (.int .i64 z2)).setCell ⟨sb,9,none⟩ (.int .i64 z3)).setCell ⟨sb,10,none⟩ (.string z4)).setCell ⟨sb,11,none⟩ (.slice z5 m5 d5)).setCell ⟨sb,12,none⟩ (.slice z6 m6 d6):=⟨_,rfl⟩
 have hbn:Below sb w6 w7:=by
  rw[hwn]
  iterate 7 refine Below.setCell ?_ (by simp) _
  exact Below.refl _ _
 have hkn:Keeps (fun b=>sb<b) w6 w7:=⟨hbn.size,fun b hb _=>by rw[hwn];iterate 7 rw[Below.heap_setCell _ _ _ _ (by show b≠sb;omega)]⟩
 have HNw7:Hid (w7.heap[w.heap.size]? =some (.cells #[.int .i64 0,.int .i64 0,.string ⟨#[]⟩,.string ⟨#[]⟩,.bool false,.slice none 0 0,.int .i64 0,.int .i64 0,.int .i64 0,.int .i64 0,.string ⟨#[]⟩,.slice none 0 0,.slice none 0 0,.slice none 0 0,.slice none 0 0] 136 (0,0))):=(hbn.block _ (by omega)).trans HNw6.out
 have HSw7:Hid (w7.heap[sb]? =some (.cells #[.int .i64 2,.int .i64 p,.string s,.string ⟨#[]⟩,.bool false,.slice none 0 0,.int .i64 z0,.int .i64 z1,.int .i64 z2,.int .i64 z3,.string z4,.slice z5 m5 d5,.slice z6 m6 d6,.slice none 0 0,.slice none 0 0] 136 (0,0))):=by
  have h9:=HSw6.out
  show _=_
  rw[hwn]
  simp[World.setCell,Array.getElem?_modify,h9]
 have HGw7:Hid (GoF w.heap.size w w7 rb e bl pr res (fun ts=>(Par.must e [59] ts).bind fun _ r=>.ok (.mk 2 p s (ba []) false [] y [] []) r) r6 v6):=hg6.later (hbn.mono (by omega))
 have hlw7:sb<w7.heap.size:=lt_of_block HSw7.out
 have HYw7:Hid (TrIs w7 (fun b=>sb<b) y [.int .i64 z0,.int .i64 z1,.int .i64 z2,.int .i64 z3,.string z4,.slice z5 m5 d5,.slice z6 m6 d6]):=HYw6.out.keeps hkn
 clear hz hbn hkn
 clear hp hq6 hg6 hy
 go_wp2_with fail
 rw[←hwn]
 clear hwn a0 a1 a2 a3 a4 a5 a6 a7 a8 a9 a10 a11 a12 a13 a14
 refine(rMust_any ⟨#[59]⟩ (by decide) HGw7.out.rd).mono ?_
 intro x wz hp
 rcases goF_of (P:=Par.must e [59]) HGw7.out (by omega) hp with⟨a9,r9,u,v9,rfl,rfl,hq9,hg9⟩|⟨hgr,c,q,hr,rfl,r,v',hrd⟩
 rotate_left
 ·exact⟨rfl,hgr.grown,.inr ⟨c,q,hr,rfl,r,v',hrd⟩⟩
 have HST:Hid (StIs wz (fun b=>sb<b) _ [.int .i64 2,.int .i64 p,.string s,.string ⟨#[]⟩,.bool false,.slice none 0 0,.int .i64 z0,.int .i64 z1,.int .i64 z2,.int .i64 z3,.string z4,.slice z5 m5 d5,.slice z6 m6 d6,.slice none 0 0,.slice none 0 0]):=StIs.keeps (StIs.of (a:=[]) (b:=[]) HSZ.out (by decide) (labNone _ _) HYw7.out (RwV.none _ _ _ _) (RwV.none _ _ _ _)) (Keeps.of_grown hq9 fun b hb=>by simp;omega)
 have hn9:=go_blk hq9 HNw7.out (by omega)
 have hs9:=go_blk hq9 HSw7.out (by omega)
 have HN9:Hid (wz.heap[w.heap.size]? =some (.cells #[.int .i64 0,.int .i64 0,.string ⟨#[]⟩,.string ⟨#[]⟩,.bool false,.slice none 0 0,.int .i64 0,.int .i64 0,.int .i64 0,.int .i64 0,.string ⟨#[]⟩,.slice none 0 0,.slice none 0 0,.slice none 0 0,.slice none 0 0] 136 (0,0))):=hn9
 have HG9:Hid _:=hg9
 obtain⟨⟨b0,b1,b2,b3,b4,b5,b6,b7,b8,b9,b10,b11,b12,b13,b14⟩,hzn⟩:=blkT hn9
 obtain⟨⟨x0,x1,x2,x3,x4,x5,x6,x7,x8,x9,x10,x11,x12,x13,x14⟩,_⟩:=blkT hs9
 have y0:=hzn 0
 have y1:=hzn 1
 have y2:=hzn 2
 have y3:=hzn 3
 have y4:=hzn 4
 have y5:=hzn 5
 have y6:=hzn 6
 have y7:=hzn 7
 have y8:=hzn 8
 have y9:=hzn 9
 have y10:=hzn 10
 have y11:=hzn 11
 have y12:=hzn 12
 have y13:=hzn 13
 have y14:=hzn 14
 have l9:=lt_of_block hn9
 have l8:=lt_of_block hs9
 clear hp hq9 hg9 hn9 hs9 hzn
 go_wp2
 obtain⟨wf,hwf⟩:∃wf,wf=(((((((((((((((wz).setCell ⟨w.heap.size,0,none⟩ (.int .i64 2)).setCell ⟨w.heap.size,1,none⟩ (.int .i64 p)).setCell ⟨w.heap.size,2,none⟩ (.string s)).setCell ⟨w.heap.size,3,none⟩ (.string ⟨#[]⟩)).setCell ⟨w.heap.size,4,none⟩ (.bool false)).setCell ⟨w.heap.size,5,none⟩ (.slice none 0 0)).setCell ⟨w.heap.size,6,none⟩ (.int .i64 z0)).setCell ⟨w.heap.size,7,none⟩ (.int .i64 z1)).setCell ⟨w.heap.size,8,none⟩ (.int .i64 z2)).setCell ⟨w.heap.size,9,none⟩ (.int .i64 z3)).setCell ⟨w.heap.size,10,none⟩ (.string z4)).setCell ⟨w.heap.size,11,none⟩ (.slice z5 m5 d5)).setCell ⟨w.heap.size,12,none⟩ (.slice z6 m6 d6)).setCell ⟨w.heap.size,13,none⟩ (.slice none 0 0)).setCell ⟨w.heap.size,14,none⟩ (.slice none 0 0):=⟨_,rfl⟩
 have hbf:Below w.heap.size wz wf:=by
  rw[hwf]
  iterate 15 refine Below.setCell ?_ (by simp) _
  exact Below.refl _ _
 have hkf:Keeps (fun b=>sb<b) wz wf:=⟨hbf.size,fun b hb _=>by rw[hwf];iterate 15 rw[Below.heap_setCell _ _ _ _ (by show b≠w.heap.size;omega)]⟩
 have hnf:wf.heap[w.heap.size]? =some (.cells #[.int .i64 2,.int .i64 p,.string s,.string ⟨#[]⟩,.bool false,.slice none 0 0,.int .i64 z0,.int .i64 z1,.int .i64 z2,.int .i64 z3,.string z4,.slice z5 m5 d5,.slice z6 m6 d6,.slice none 0 0,.slice none 0 0] 136 (0,0)):=by rw[hwf];simp[World.setCell,Array.getElem?_modify,HN9.out]
 rw[←hwf]
 exact stm_ret HG9.out hnf HST.out hkf hbf (by omega) rfl
theorem stmtC {w:World}{rb e:Nat}{bl pr:Int}{ts:List Tok}{v:Value}{Bk:List Tok→Res (List Stm)}(hE:ExpC rb e bl pr (Par.exprR e 12))(hBk:BlkC rb e bl pr Bk)(h:Rd w rb e bl pr ts v):
 Calls Tryz.prog 107 #[.pointer (some ⟨rb,0,none⟩)] w (Post w rb e bl pr (Par.stmF e Bk ts) (VT w.heap.size)):=by
 by_cases n0:(nx ts).2.2=Par.wIf
 ·exact stmtA (.inl n0) hE hBk h
 by_cases n1:(nx ts).2.2=Par.wWhile
 ·exact stmtA (.inr (.inl n1)) hE hBk h
 by_cases n2:(nx ts).2.2=Par.wVar
 ·exact stmtA (.inr (.inr n2)) hE hBk h
 by_cases n3:(nx ts).2.2=Par.wSend
 ·exact stmtB n0 n1 n2 (.inl n3) hE hBk h
 by_cases n4:(nx ts).2.2=Par.wTake
 ·exact stmtB n0 n1 n2 (.inr n4) hE hBk h
 exact stmtD n0 n1 n2 n3 n4 hE hBk h
open Par (Tok Po Tr nx atP isT ba Res)
theorem bnd_succ {rb e:Nat}{bl pr:Int}{P:List Tok→Res Tr}(hS:Par.Sfx P){j:Nat}(hj:j<5)(hB:BndC rb e bl pr P j):BndC rb e bl pr P (j+1):=by
 intro w ts v h
 obtain⟨lv,hlv⟩:∃lv,lv=6 - (j+1):=⟨_,rfl⟩
 have hl1:((6 - j:Nat):Int)=(lv:Int)+1:=by omega
 have hl5:5 - j=lv:=by omega
 have HB:Hid (∀(w:World) (ts:List Tok) (v:Value),Rd w rb e bl pr ts v→Calls Tryz.prog 165 #[.pointer (some ⟨rb,0,none⟩),.int .i64 ((lv:Int)+1)] w (Post w rb e bl pr (Par.bd P j ts) (VE w.heap.size))):=fun w ts v h=>by have:=hB w ts v h;rwa [hl1] at this
 have HE:Hid (Par.bd P (j+1) ts=(Par.bd P j ts).bind fun x r=>Par.loopF (Par.bd P j) lv r.length x r):=by show _=_;rw[←hl5];rfl
 have HQ:Hid (Par.Sfx (Par.bd P j)):=Par.bd_sfx hS j
 rw[←hlv]
 have hv1:1≤lv:=by omega
 have hv5:lv≤5:=by omega
 have hgt:decide ((5:Int)<(lv:Int))=false:=by simp;omega
 have hrl:=h.lt
 obtain⟨w0,hw0⟩:∃w0,w0=w.alloc (.cells ZE 134):=⟨_,rfl⟩
 have hbel:Below w.heap.size w w0:=by rw[hw0];exact(Below.refl _ _).alloc (Nat.le_refl _) _
 have hs0:w0.heap.size=w.heap.size+1:=by rw[hw0];simp
 have hres:w0.heap[w.heap.size]? =some (.cells ZE 134 (0,0)):=by rw[hw0];exact heap_at_alloc _ _ _ rfl
 have HP:=HB.out w0 ts v (h.keeps hbel h.lt)
 have f2:=fTok2
 unfold ZE at hw0
 clear h hB hlv hl1 hl5 hj hS
 go_enter Tryz.func165,Tryz.ntmps165
 go_wp2_with fail
 rw[←hw0]
 refine HP.mono ?_
 rintro x w1 ⟨hg1,⟨a,r,hr,u,v1,rfl,⟨z0,z1,z2,z3,z4,z5,m5,d5,z6,m6,d6,rfl,hx⟩,h1⟩|⟨cc,q,hr,rfl,r,v1,h1⟩⟩
 ·have hz1:=hg1.size
  have HS:Hid (Lp w (w1.alloc (.cells #[.int .i64 z0,.int .i64 z1,.int .i64 z2,.int .i64 z3,.string z4,.slice z5 m5 d5,.slice z6 m6 d6] 134)) rb e w1.heap.size bl pr (Par.bd P j) lv (Par.bd P (j+1) ts) a [.int .i64 z0,.int .i64 z1,.int .i64 z2,.int .i64 z3,.string z4,.slice z5 m5 d5,.slice z6 m6 d6] r v1):=by
   have hbA:Below w1.heap.size w1 (w1.alloc (.cells #[.int .i64 z0,.int .i64 z1,.int .i64 z2,.int .i64 z3,.string z4,.slice z5 m5 d5,.slice z6 m6 d6] 134)):=(Below.refl _ _).alloc (Nat.le_refl _) _
   refine⟨h1.keeps hbA h1.lt,grown_below (grown_trans (grown_of_below _ hbel) hg1) hbA,(hbA.block _ (by omega)).trans ((hg1.block _ (by omega) (by simp;omega)).trans hres),heap_at_alloc _ _ _ rfl,by omega,?_,by rw[HE.out,hr];rfl⟩
   exact(TrIs.mono hx fun b hb hl=>⟨by omega,by omega⟩).keeps (Keeps.of_below hbA)
  clear hg1 hx h1 hr HP hres hbel hs0
  go_wp2
  go_loopw [20] (fun _ wr=>∃y z0 z1 z2 z3 z4 z5 m5 d5 z6 m6 d6 ts' v',Lp w wr rb e w1.heap.size bl pr (Par.bd P j) lv (Par.bd P (j+1) ts) y [.int .i64 z0,.int .i64 z1,.int .i64 z2,.int .i64 z3,.string z4,.slice z5 m5 d5,.slice z6 m6 d6] ts' v') (fun _ wr=>leftOf wr rb)
  case atStart=>exact⟨_,_,_,_,_,_,_,_,_,_,_,_,_,_,HS.out⟩
  case round=>
   clear HS
   obtain⟨y,z0,z1,z2,z3,z4,z5,m5,d5,z6,m6,d6,ts',v',HL0⟩:=hrel
   have HL:Hid (Lp w wr rb e w1.heap.size bl pr (Par.bd P j) lv (Par.bd P (j+1) ts) y [.int .i64 z0,.int .i64 z1,.int .i64 z2,.int .i64 z3,.string z4,.slice z5 m5 d5,.slice z6 m6 d6] ts' v'):=HL0
   have hXb:=HL0.big
   have hXl:=lt_of_block HL0.xb
   clear HL0
   go_wp2_with fail
   refine(rNext_any HL.out.rd).mono ?_
   rintro x w2 ⟨rfl,hb2⟩
   have H2:Hid (Rd w2 rb e bl pr ts' v'):=HL.out.rd.keeps hb2 HL.out.rd.lt
   have HB2:Hid (Below wr.heap.size wr w2):=hb2
   have hz2:=hb2.size
   clear hb2
   go_wp2_with fail
   refine(levelC H2.out.lv _).mono ?_
   rintro x w2' ⟨rfl,hw2'⟩
   have hw2s:=hw2'.symm;subst hw2s
   rw[ba_data]
   have hx2:w2.heap[w1.heap.size]? =some (.cells #[.int .i64 z0,.int .i64 z1,.int .i64 z2,.int .i64 z3,.string z4,.slice z5 m5 d5,.slice z6 m6 d6] 134 (0,0)):=(HB2.out.block _ hXl).trans HL.out.xb
   have hr2:w2.heap[w.heap.size]? =some (.cells ZE 134 (0,0)):=(HB2.out.block _ (by omega)).trans HL.out.res
   have HG2:Hid (w.grownBy w2 (some rb)):=grown_below HL.out.gr HB2.out
   have HT2:Hid (TrIs w2 (fun b=>w.heap.size+1≤b∧b≠w1.heap.size) y [.int .i64 z0,.int .i64 z1,.int .i64 z2,.int .i64 z3,.string z4,.slice z5 m5 d5,.slice z6 m6 d6]):=HL.out.tr.keeps (Keeps.of_below HB2.out)
   by_cases hq:Par.levF (nx ts').2.2=lv
   ·have hc:(((Par.levF (nx ts').2.2:Nat):Int)==(lv:Int))=true:=by simp[hq]
    obtain⟨t,r,rfl⟩:∃t r,ts'=t::r:=by
     cases ts' with
     | nil=>rw[show Par.levF (nx ([]:List Tok)).2.2=0 from Par.lev_none] at hq;omega
     | cons t r=>exact⟨t,r,rfl⟩
    have HE2:Hid (Par.bd P (j+1) ts=(Par.bd P j r).bind fun z r2=>Par.loopF (Par.bd P j) lv r2.length (Par.opT t [y,z]) r2):=by show _=_;rw[HL.out.eq];exact loop_yes hq HQ.out (by omega)
    have HX2:Hid (w2.heap[w1.heap.size]? =some (.cells #[.int .i64 z0,.int .i64 z1,.int .i64 z2,.int .i64 z3,.string z4,.slice z5 m5 d5,.slice z6 m6 d6] 134 (0,0))):=hx2
    have HR2:Hid (w2.heap[w.heap.size]? =some (.cells ZE 134 (0,0))):=hr2
    have HLL:Hid (leftOf wr rb=r.length+1):=by show _=_;rw[leftOf_of HL.out.rd];rfl
    clear hx2 hr2 hq HL
    go_wp2_with fail
    refine(rTake_any H2.out).mono ?_
    rintro x w3 ⟨rfl,hg3,v3,h3⟩
    have hz3:=hg3.size
    obtain⟨wk,hwk⟩:∃wk,wk=w3.alloc (.cells #[.int .i64 t.1,.int .i64 (t.2.1:Int),.string (ba t.2.2)] 106):=⟨_,rfl⟩
    have hbk:Below w3.heap.size w3 wk:=by rw[hwk];exact(Below.refl _ _).alloc (Nat.le_refl _) _
    have hsk:wk.heap.size=w3.heap.size+1:=by rw[hwk];simp
    have hxk:wk.heap[w1.heap.size]? =some (.cells #[.int .i64 z0,.int .i64 z1,.int .i64 z2,.int .i64 z3,.string z4,.slice z5 m5 d5,.slice z6 m6 d6] 134 (0,0)):=(hbk.block _ (by omega)).trans ((hg3.block _ (by omega) (by simp;omega)).trans HX2.out)
    have hrk:wk.heap[w.heap.size]? =some (.cells ZE 134 (0,0)):=(hbk.block _ (by omega)).trans ((hg3.block _ (by omega) (by simp;omega)).trans HR2.out)
    have hkk:wk.heap[w3.heap.size]? =some (.cells #[.int .i64 t.1,.int .i64 (t.2.1:Int),.string (ba t.2.2)] 106 (0,0)):=by rw[hwk];exact heap_at_alloc _ _ _ rfl
    have hRk:Rd wk rb e bl pr r v3:=h3.keeps hbk h3.lt
    have HGk:Hid (w.grownBy wk (some rb)):=grown_below (grown_trans HG2.out hg3) hbk
    have HTk:Hid (TrIs wk (fun b=>w.heap.size+1≤b∧b≠w1.heap.size) y [.int .i64 z0,.int .i64 z1,.int .i64 z2,.int .i64 z3,.string z4,.slice z5 m5 d5,.slice z6 m6 d6]):=(HT2.out.keeps (Keeps.of_grown hg3 fun b hb=>by have:=hb.1;simp;omega)).keeps (Keeps.of_below hbk)
    have hgt':=H2.out.goods.1
    have hwr:IntKind.i64.wrap ((lv:Int)+1)=(lv:Int)+1:=by rw[IntKind.wrap_i64];omega
    have HC:=HB.out wk.drew r v3 hRk.drew
    have HXk:Hid (wk.heap[w1.heap.size]? =some (.cells #[.int .i64 z0,.int .i64 z1,.int .i64 z2,.int .i64 z3,.string z4,.slice z5 m5 d5,.slice z6 m6 d6] 134 (0,0))):=hxk
    have HRk:Hid (wk.heap[w.heap.size]? =some (.cells ZE 134 (0,0))):=hrk
    have HKk:Hid (wk.heap[w3.heap.size]? =some (.cells #[.int .i64 t.1,.int .i64 (t.2.1:Int),.string (ba t.2.2)] 106 (0,0))):=hkk
    have HWK:Hid (wk=w3.alloc (.cells #[.int .i64 t.1,.int .i64 (t.2.1:Int),.string (ba t.2.2)] 106)):=hwk
    obtain⟨⟨e0,e1,e2,e3,e4,e5,e6⟩,_⟩:=blkE hxk
    obtain⟨⟨k0,k1,k2⟩,_⟩:=blk3 hkk
    clear hg3 h3 hbk hxk hrk hkk hRk hwk
    go_wp2
    rw[←HWK.out]
    cases hbd:Par.bd P j r with
    | no c4 q4=>
     have HCN:Calls Tryz.prog 165 #[.pointer (some ⟨rb,0,none⟩),.int .i64 ((lv:Int)+1)] wk.drew (fun x w4=>x=goneE c4 q4∧wk.drew.grownBy w4 (some rb)∧∃r4 v4,Rd w4 rb e bl pr r4 v4):=by
      refine HC.mono fun x w4 hp=> ?_
      obtain⟨hg,⟨a',r',h1',_⟩|⟨c',q',h1',h2',r',v'',h3'⟩⟩:=hp
      ·rw[hbd] at h1';cases h1'
      ·rw[hbd] at h1';cases h1';exact⟨h2',hg,_,_,h3'⟩
     have HEN:Hid (Par.bd P (j+1) ts=.no c4 q4):=by show _=_;rw[HE2.out,hbd];rfl
     clear HC hbd
     refine wp_region_held_drew (S:=(fun w'=>w'.cell? ⟨w1.heap.size,0,none⟩=some (.int .i64 z0)∧w'.cell? ⟨w1.heap.size,1,none⟩=some (.int .i64 z1)∧w'.cell? ⟨w1.heap.size,2,none⟩=some (.int .i64 z2)∧w'.cell? ⟨w1.heap.size,3,none⟩=some (.int .i64 z3)∧w'.cell? ⟨w1.heap.size,4,none⟩=some (.string z4)∧w'.cell? ⟨w1.heap.size,5,none⟩=some (.slice z5 m5 d5)∧w'.cell? ⟨w1.heap.size,6,none⟩=some (.slice z6 m6 d6)∧w'.cell? ⟨w3.heap.size,1,none⟩=some (.int .i64 (t.2.1:Int))∧w'.cell? ⟨w3.heap.size,2,none⟩=some (.string (ba t.2.2)))) (by kernel_rfl) (by go_keep) (fun hHeld=> ?_)
     refine wpAnyH_take (i:=0) (v:=.pointer (some ⟨w3.heap.size,1,none⟩)) rfl (by kernel_rfl) (by kernel_rfl) (by kernel_rfl) (fun _ _ _ h=>h) (Or.inl ⟨by rfl,fun W hSw=>by dsimp only at hSw;go_simp⟩) hHeld ?_
     simp only[Act.put]
     refine wpAnyH_take (i:=1) (v:=.int .i64 (t.2.1:Int)) rfl (by kernel_rfl) (by kernel_rfl) (by kernel_rfl) (fun _ _ _ h=>h) (Or.inl ⟨by rfl,fun W hSw=>by dsimp only at hSw;go_simp⟩) hHeld ?_
     simp only[Act.put]
     refine wpAnyH_take (i:=2) (v:=.pointer (some ⟨w3.heap.size,2,none⟩)) rfl (by kernel_rfl) (by kernel_rfl) (by kernel_rfl) (fun _ _ _ h=>h) (Or.inl ⟨by rfl,fun W hSw=>by dsimp only at hSw;go_simp⟩) hHeld ?_
     simp only[Act.put]
     refine wpAnyH_take (i:=3) (v:=.string (ba t.2.2)) rfl (by kernel_rfl) (by kernel_rfl) (by kernel_rfl) (fun _ _ _ h=>h) (Or.inl ⟨by rfl,fun W hSw=>by dsimp only at hSw;go_simp⟩) hHeld ?_
     simp only[Act.put]
     refine wpAnyH_take (i:=4) (v:=.agg #[.int .i64 z0,.int .i64 z1,.int .i64 z2,.int .i64 z3,.string z4,.slice z5 m5 d5,.slice z6 m6 d6]) rfl (by kernel_rfl) (by kernel_rfl) (by kernel_rfl) (fun _ _ _ h=>h) (Or.inl ⟨by rfl,fun W hSw=>by dsimp only at hSw;go_simp⟩) hHeld ?_
     simp only[Act.put]
     refine wpAnyH_take (i:=5) (v:=.pointer (some ⟨rb,0,none⟩)) rfl (by kernel_rfl) (by kernel_rfl) (by kernel_rfl) (fun _ _ _ h=>h) (Or.inl ⟨by rfl,fun W hSw=>by dsimp only at hSw;go_simp⟩) hHeld ?_
     simp only[Act.put]
     refine wpAnyH_take (i:=6) (v:=.int .i64 (lv:Int)) rfl (by kernel_rfl) (by kernel_rfl) (by kernel_rfl) (fun _ _ _ h=>h) (Or.inl ⟨by rfl,fun W hSw=>by dsimp only at hSw;go_simp⟩) hHeld ?_
     simp only[Act.put]
     refine wpAnyH_take (i:=7) (v:=.int .i64 ((lv:Int)+1)) rfl (by kernel_rfl) (by kernel_rfl) (by kernel_rfl) (fun _ _ _ h=>h) (Or.inl ⟨by rfl,fun W hSw=>by dsimp only at hSw;go_simp⟩) hHeld ?_
     simp only[Act.put]
     refine wpAnyH_ready (rs:=[8]) (by kernel_rfl) (by simp) ?_
     refine AllReadyH.cons rfl (fun K hK=> ?_) AllReadyH.nil
     go_simp
     go_wp2_with fail
     try rw[hwr]
     refine HCN.mono ?_
     rintro x w4 ⟨rfl,hg4,r4,v4,h4⟩
     exact⟨rfl,grown_trans (grown_drew HGk.out) hg4,.inr ⟨c4,q4,HEN.out,rfl,_,_,h4⟩⟩
    | ok z r4=>
     have HCO:Calls Tryz.prog 165 #[.pointer (some ⟨rb,0,none⟩),.int .i64 ((lv:Int)+1)] wk.drew (fun x w4=>wk.drew.grownBy w4 (some rb)∧∃u4 v4,x=.returned u4∧VE wk.drew.heap.size w4 z u4∧Rd w4 rb e bl pr r4 v4):=by
      refine HC.mono fun x w4 hp=> ?_
      obtain⟨hg,⟨a',r',h1',u',v'',h2',h3',h4'⟩|⟨c',q',h1',_⟩⟩:=hp
      ·rw[hbd] at h1';cases h1';exact⟨hg,_,_,h2',h3',h4'⟩
      ·rw[hbd] at h1';cases h1'
     have HEO:Hid (Par.bd P (j+1) ts=Par.loopF (Par.bd P j) lv r4.length (Par.opT t [y,z]) r4):=by show _=_;rw[HE2.out,hbd];rfl
     have HLE:Hid (r4.length≤r.length):=(HQ.out _ _ _ hbd).length_le
     clear HC hbd
     go_region_with (go_at_call 165;(try rw[hwr]);refine HCO.mono ?_;rintro x w4 ⟨hg4,u4,v4,rfl,⟨y0,y1,y2,y3,y4,y5,n5,c5,y6,n6,c6,rfl,hx4⟩,h4⟩;have hxb4:w4.heap[w1.heap.size]? =some (.cells #[.int .i64 z0,.int .i64 z1,.int .i64 z2,.int .i64 z3,.string z4,.slice z5 m5 d5,.slice z6 m6 d6] 134 (0,0)):=(by exact(hg4.block _ (show w1.heap.size<wk.heap.size by omega) (by simp;omega)).trans HXk.out);have hkb4:w4.heap[w3.heap.size]? =some (.cells #[.int .i64 t.1,.int .i64 (t.2.1:Int),.string (ba t.2.2)] 106 (0,0)):=(by exact(hg4.block _ (show w3.heap.size<wk.heap.size by omega) (by simp;omega)).trans HKk.out);have HNX:=lp_next (Q:=Par.bd P j) (lv:=lv) (all:=Par.bd P (j+1) ts) HGk.out hg4 hxb4 HRk.out HTk.out hx4 h4 (by omega) (by omega) hrl hgt' HEO.out;have HNN:Hid _:=HNX;have HMX:=left_lt HNX.rd HLL.out HLE.out;have HMM:Hid _:=HMX;have hXl4:=lt_of_block hxb4;have hkl4:=lt_of_block hkb4;obtain⟨⟨e0',e1',e2',e3',e4',e5',e6'⟩,y00,y01,y02,y03,y04,y05,y06⟩:=blkE hxb4;obtain⟨⟨k0',k1',k2'⟩,_⟩:=blk3 hkb4;clear hxb4 hkb4 hg4 hx4 h4 HNX HMX)
     all_goals (try go_wp2_with fail)
     all_goals go_roundw
     all_goals first
      | exact⟨_,_,_,_,_,_,_,_,_,_,_,_,_,_,HNN.out⟩
      | exact HMM.out
   ·have hc:(((Par.levF (nx ts').2.2:Nat):Int)==(lv:Int))=false:=by simp;omega
    have HE2:Hid (Par.bd P (j+1) ts=.ok y ts'):=by show _=_;rw[HL.out.eq];exact loop_no hq
    have hn2:=lt_of_block hr2
    unfold ZE at hr2
    obtain⟨⟨q0,q1,q2,q3,q4,q5,q6⟩,p0,p1,p2,p3,p4,p5,p6⟩:=blkE hr2
    obtain⟨⟨e0,e1,e2,e3,e4,e5,e6⟩,_⟩:=blkE hx2
    have HF:=fin7 HG2.out H2.out hrl (HT2.out.mono fun b hb _=>hb.1)
    have HFF:Hid _:=HF
    clear hx2 hr2 HF hq HL
    go_wp2
    refine bodyPost_ret (v:=.agg #[.int .i64 z0,.int .i64 z1,.int .i64 z2,.int .i64 z3,.string z4,.slice z5 m5 d5,.slice z6 m6 d6]) (by simp[results,Tryz.results165,go_sem,q0,q1,q2,q3,q4,q5,q6]) rfl ?_
    obtain⟨g1,g2,g3⟩:=HFF.out
    exact⟨g1,.inl ⟨_,_,HE2.out,_,_,rfl,⟨_,_,_,_,_,_,_,_,_,_,_,rfl,g3⟩,g2⟩⟩
 ·have HN:Par.bd P (j+1) ts=.no cc q:=by rw[HE.out,hr];rfl
  exact⟨rfl,grown_trans (grown_of_below _ hbel) hg1,.inr ⟨_,_,HN,rfl,_,_,h1⟩⟩
end Go.Proofs.YtepkhlpjgnckkaaGreatDoor
