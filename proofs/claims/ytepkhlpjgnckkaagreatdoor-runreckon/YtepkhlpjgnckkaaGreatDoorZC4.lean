/- parse's reader of programs: stmt, its other ways. -/
import Derived.Test.YtepkhlpjgnckkaaGreatDoorZC3
namespace Go.Proofs.YtepkhlpjgnckkaaGreatDoor
set_option maxRecDepth 100000
set_option maxHeartbeats 8000000
open Go.RowKit
open Par (Tok Po Tr nx atP isT ba Res Stm Prm Chn Prc Prg)
theorem stmtB {w:World}{rb e:Nat}{bl pr:Int}{ts:List Tok}{v:Value}{Bk:List Tok→Res (List Stm)}(n0:(nx ts).2.2≠Par.wIf)(n1:(nx ts).2.2≠Par.wWhile)(n2:(nx ts).2.2≠Par.wVar)(hin:(nx ts).2.2=Par.wSend∨(nx ts).2.2=Par.wTake)(hE:ExpC rb e bl pr (Par.exprR e 12))(hBk:BlkC rb e bl pr Bk)(h:Rd w rb e bl pr ts v):
 Calls Tryz.prog 107 #[.pointer (some ⟨rb,0,none⟩)] w (Post w rb e bl pr (Par.stmF e Bk ts) (VT w.heap.size)):=by
 obtain⟨res,hres⟩:∃res,res=Par.stmF e Bk ts:=⟨_,rfl⟩
 rw[←hres]
 have HRS:Hid (res=Par.stmF e Bk ts):=hres
 have f2:=fTok2
 have HE:Hid (ExpC rb e bl pr (Par.exprR e 12)):=hE
 have HK:Hid (BlkC rb e bl pr Bk):=hBk
 have hlt:=h.lt
 obtain⟨w0,hw0⟩:∃w0,w0=w.alloc (.cells #[.int .i64 0,.int .i64 0,.string ⟨#[]⟩,.string ⟨#[]⟩,.bool false,.slice none 0 0,.int .i64 0,.int .i64 0,.int .i64 0,.int .i64 0,.string ⟨#[]⟩,.slice none 0 0,.slice none 0 0,.slice none 0 0,.slice none 0 0] 136):=⟨_,rfl⟩
 have hb0:Below w.heap.size w w0:=by rw[hw0];exact(Below.refl _ _).alloc (Nat.le_refl _) _
 have hs0:w0.heap.size=w.heap.size+1:=by rw[hw0];simp
 have hn0:w0.heap[w.heap.size]? =some (.cells #[.int .i64 0,.int .i64 0,.string ⟨#[]⟩,.string ⟨#[]⟩,.bool false,.slice none 0 0,.int .i64 0,.int .i64 0,.int .i64 0,.int .i64 0,.string ⟨#[]⟩,.slice none 0 0,.slice none 0 0,.slice none 0 0,.slice none 0 0] 136 (0,0)):=by rw[hw0];exact heap_at_alloc _ _ _ rfl
 have hrd0:Rd w0 rb e bl pr ts v:=h.keeps hb0 h.lt
 have HAT:=rAt_any hrd0
 obtain⟨p,hp0⟩:∃p:Int,p=(atP e ts:Nat):=⟨_,rfl⟩
 rw[←hp0] at HAT
 have HP0:Hid (p=(atP e ts:Nat)):=hp0
 obtain⟨sb,hsb⟩:∃sb,sb=w.heap.size+1:=⟨_,rfl⟩
 obtain⟨wb,hwb⟩:∃wb,wb=w0.alloc (.cells #[.int .i64 0,.int .i64 p,.string ⟨#[]⟩,.string ⟨#[]⟩,.bool false,.slice none 0 0,.int .i64 0,.int .i64 0,.int .i64 0,.int .i64 0,.string ⟨#[]⟩,.slice none 0 0,.slice none 0 0,.slice none 0 0,.slice none 0 0] 136):=⟨_,rfl⟩
 have hbb:Below w0.heap.size w0 wb:=by rw[hwb];exact(Below.refl _ _).alloc (Nat.le_refl _) _
 have hnb:wb.heap[w.heap.size]? =some (.cells #[.int .i64 0,.int .i64 0,.string ⟨#[]⟩,.string ⟨#[]⟩,.bool false,.slice none 0 0,.int .i64 0,.int .i64 0,.int .i64 0,.int .i64 0,.string ⟨#[]⟩,.slice none 0 0,.slice none 0 0,.slice none 0 0,.slice none 0 0] 136 (0,0)):=(hbb.block _ (by omega)).trans hn0
 have hsbk:wb.heap[sb]? =some (.cells #[.int .i64 0,.int .i64 p,.string ⟨#[]⟩,.string ⟨#[]⟩,.bool false,.slice none 0 0,.int .i64 0,.int .i64 0,.int .i64 0,.int .i64 0,.string ⟨#[]⟩,.slice none 0 0,.slice none 0 0,.slice none 0 0,.slice none 0 0] 136 (0,0)):=by rw[hsb,←hs0,hwb];exact heap_at_alloc _ _ _ rfl
 have hrdb:Rd wb rb e bl pr ts v:=hrd0.keeps hbb hrd0.lt
 have HNX:=rNext_any hrdb
 have HGb:Hid (Fr w.heap.size rb w wb):=(Fr.of_below hb0).trans (Fr.of_below (hbb.mono (by omega)))
 have HRb:Hid (Rd wb rb e bl pr ts v):=hrdb
 have HNb:Hid (wb.heap[w.heap.size]? =some (.cells #[.int .i64 0,.int .i64 0,.string ⟨#[]⟩,.string ⟨#[]⟩,.bool false,.slice none 0 0,.int .i64 0,.int .i64 0,.int .i64 0,.int .i64 0,.string ⟨#[]⟩,.slice none 0 0,.slice none 0 0,.slice none 0 0,.slice none 0 0] 136 (0,0))∧wb.heap[sb]? =some (.cells #[.int .i64 0,.int .i64 p,.string ⟨#[]⟩,.string ⟨#[]⟩,.bool false,.slice none 0 0,.int .i64 0,.int .i64 0,.int .i64 0,.int .i64 0,.string ⟨#[]⟩,.slice none 0 0,.slice none 0 0,.slice none 0 0,.slice none 0 0] 136 (0,0))):=⟨hnb,hsbk⟩
 obtain⟨tx,htx⟩:∃tx,tx=(nx ts).2.2:=⟨_,rfl⟩
 rw[←htx] at HNX n0 n1 n2 hin
 have N0:Hid (tx≠Par.wIf):=n0
 have N1:Hid (tx≠Par.wWhile):=n1
 have N2:Hid (tx≠Par.wVar):=n2
 have HIN:Hid (tx=Par.wSend∨tx=Par.wTake):=hin
 clear n0 n1 n2 hin
 have HTX:Hid (tx=(nx ts).2.2):=htx
 clear h hres hE hBk hb0 hn0 hrd0 hp0 hbb hnb hsbk hrdb htx
 go_enter Tryz.func107,Tryz.ntmps107
 go_wp2_with fail
 rw[←hw0]
 clear hw0
 refine HAT.mono ?_
 rintro x w0' ⟨rfl,hw0'⟩
 subst hw0'
 go_wp2_with fail
 rw[←hwb,←hsb]
 have hsl:w.heap.size<sb:=by omega
 clear hwb hsb
 refine HNX.mono ?_
 rintro x w2 ⟨rfl,hb2⟩
 have hlb:=lt_of_block HNb.out.2
 have HN2:Hid (w2.heap[w.heap.size]? =some (.cells #[.int .i64 0,.int .i64 0,.string ⟨#[]⟩,.string ⟨#[]⟩,.bool false,.slice none 0 0,.int .i64 0,.int .i64 0,.int .i64 0,.int .i64 0,.string ⟨#[]⟩,.slice none 0 0,.slice none 0 0,.slice none 0 0,.slice none 0 0] 136 (0,0))):=(hb2.block _ (lt_of_block HNb.out.1)).trans HNb.out.1
 have HS2:Hid (w2.heap[sb]? =some (.cells #[.int .i64 0,.int .i64 p,.string ⟨#[]⟩,.string ⟨#[]⟩,.bool false,.slice none 0 0,.int .i64 0,.int .i64 0,.int .i64 0,.int .i64 0,.string ⟨#[]⟩,.slice none 0 0,.slice none 0 0,.slice none 0 0,.slice none 0 0] 136 (0,0))):=(hb2.block _ hlb).trans HNb.out.2
 have HF2:Hid (Fr w.heap.size rb w w2):=HGb.out.trans (Fr.of_below (hb2.mono (by omega)))
 have HR2:Hid (Rd w2 rb e bl pr ts v):=HRb.out.keeps hb2 HRb.out.lt
 have hl2:sb<w2.heap.size:=lt_of_block HS2.out
 clear hb2 HAT HNX hlb
 have h0:¬tx=Par.wIf:=N0.out
 have h1:¬tx=Par.wWhile:=N1.out
 have h2:¬tx=Par.wVar:=N2.out
 by_cases h3:tx=Par.wSend
 ·have q0:((ba tx).toList==[105,102])=false:=by rw[ba_list];exact beq_eq_false_iff_ne.mpr (fun h=>h0 h)
  have q1:((ba tx).toList==[119,104,105,108,101])=false:=by rw[ba_list];exact beq_eq_false_iff_ne.mpr (fun h=>h1 h)
  have q2:((ba tx).toList==[118,97,114])=false:=by rw[ba_list];exact beq_eq_false_iff_ne.mpr (fun h=>h2 h)
  have q3:((ba tx).toList==[115,101,110,100])=true:=by rw[ba_list,h3];decide
  obtain⟨t,r0,rfl⟩:∃t r0,ts=t::r0:=by
   cases ts with
   | nil=>have h9:=HTX.out;rw[h3] at h9;cases h9
   | cons t r0=>exact⟨t,r0,rfl⟩
  have htt:t.2.2=tx:=HTX.out.symm
  have HEQ:Hid (res=(fun ts=>(Par.nameR e ts).bind fun s r1=>(Par.exprR e 12 r1).bind fun x r2=>Par.semi e (.mk 5 p s (ba []) false [] x [] []) r2) r0):=by
   show _=_
   rw[HRS.out]
   unfold Par.stmF
   rw[if_neg (by rw[←HTX.out];exact h0)]
   rw[if_neg (by rw[←HTX.out];exact h1)]
   rw[if_neg (by rw[←HTX.out];exact h2)]
   rw[if_pos (by rw[←HTX.out];exact h3)]
   rw[HP0.out]
   rfl
  have HTK:=rTake_any HR2.out
  clear htt h3
  go_wp2_with fail
  refine HTK.mono ?_
  rintro x w3 ⟨rfl,hq3,v3,hrd3⟩
  have HGw3:Hid (GoF w.heap.size w w3 rb e bl pr res (fun ts=>(Par.nameR e ts).bind fun s r1=>(Par.exprR e 12 r1).bind fun x r2=>Par.semi e (.mk 5 p s (ba []) false [] x [] []) r2) r0 v3):=⟨HF2.out.trans (Fr.of_grown hq3 (by omega)),hrd3,HEQ.out,hlt⟩
  have HNw3:Hid (w3.heap[w.heap.size]? =some (.cells #[.int .i64 0,.int .i64 0,.string ⟨#[]⟩,.string ⟨#[]⟩,.bool false,.slice none 0 0,.int .i64 0,.int .i64 0,.int .i64 0,.int .i64 0,.string ⟨#[]⟩,.slice none 0 0,.slice none 0 0,.slice none 0 0,.slice none 0 0] 136 (0,0))):=go_blk hq3 HN2.out (by omega)
  have HSw3:Hid (w3.heap[sb]? =some (.cells #[.int .i64 0,.int .i64 p,.string ⟨#[]⟩,.string ⟨#[]⟩,.bool false,.slice none 0 0,.int .i64 0,.int .i64 0,.int .i64 0,.int .i64 0,.string ⟨#[]⟩,.slice none 0 0,.slice none 0 0,.slice none 0 0,.slice none 0 0] 136 (0,0))):=go_blk hq3 HS2.out (by omega)
  have hlw3:sb<w3.heap.size:=lt_of_block HSw3.out
  clear hq3 hrd3 HTK
  go_wp2_with fail
  refine(rName_any HGw3.out.rd).mono ?_
  intro x w4 hp
  rcases goF_of HGw3.out (by omega) hp with⟨s,r4,u,v4,rfl,⟨rfl,hsz⟩,hq4,hg4⟩|⟨hgr,c,q,hr,rfl,r,v',hrd⟩
  rotate_left
  ·exact⟨rfl,hgr.grown,.inr ⟨c,q,hr,rfl,r,v',hrd⟩⟩
  have HNw4:Hid (w4.heap[w.heap.size]? =some (.cells #[.int .i64 0,.int .i64 0,.string ⟨#[]⟩,.string ⟨#[]⟩,.bool false,.slice none 0 0,.int .i64 0,.int .i64 0,.int .i64 0,.int .i64 0,.string ⟨#[]⟩,.slice none 0 0,.slice none 0 0,.slice none 0 0,.slice none 0 0] 136 (0,0))):=go_blk hq4 HNw3.out (by omega)
  have HSw4:Hid (w4.heap[sb]? =some (.cells #[.int .i64 0,.int .i64 p,.string ⟨#[]⟩,.string ⟨#[]⟩,.bool false,.slice none 0 0,.int .i64 0,.int .i64 0,.int .i64 0,.int .i64 0,.string ⟨#[]⟩,.slice none 0 0,.slice none 0 0,.slice none 0 0,.slice none 0 0] 136 (0,0))):=go_blk hq4 HSw3.out (by omega)
  have hlw4:sb<w4.heap.size:=lt_of_block HSw4.out
  have HGw4:Hid (GoF w.heap.size w w4 rb e bl pr res (fun ts=>(Par.exprR e 12 ts).bind fun x r2=>Par.semi e (.mk 5 p s (ba []) false [] x [] []) r2) r4 v4):=hg4
  have HSZ:Hid (s.size≤maxLen):=hsz
  have hlw4:sb<w4.heap.size:=lt_of_block HSw4.out
  clear hp hq4 hg4 hsz
  go_wp2_with fail
  refine(HE.out _ _ _ HGw4.out.rd).mono ?_
  intro x w5 hp
  rcases goF_of HGw4.out (by omega) hp with⟨y,r5,u,v5,rfl,⟨z0,z1,z2,z3,z4,z5,m5,d5,z6,m6,d6,rfl,hy⟩,hq5,hg5⟩|⟨hgr,c,q,hr,rfl,r,v',hrd⟩
  rotate_left
  ·exact⟨rfl,hgr.grown,.inr ⟨c,q,hr,rfl,r,v',hrd⟩⟩
  have HNw5:Hid (w5.heap[w.heap.size]? =some (.cells #[.int .i64 0,.int .i64 0,.string ⟨#[]⟩,.string ⟨#[]⟩,.bool false,.slice none 0 0,.int .i64 0,.int .i64 0,.int .i64 0,.int .i64 0,.string ⟨#[]⟩,.slice none 0 0,.slice none 0 0,.slice none 0 0,.slice none 0 0] 136 (0,0))):=go_blk hq5 HNw4.out (by omega)
  have HSw5:Hid (w5.heap[sb]? =some (.cells #[.int .i64 0,.int .i64 p,.string ⟨#[]⟩,.string ⟨#[]⟩,.bool false,.slice none 0 0,.int .i64 0,.int .i64 0,.int .i64 0,.int .i64 0,.string ⟨#[]⟩,.slice none 0 0,.slice none 0 0,.slice none 0 0,.slice none 0 0] 136 (0,0))):=go_blk hq5 HSw4.out (by omega)
  have hlw5:sb<w5.heap.size:=lt_of_block HSw5.out
  have HYw5:Hid (TrIs w5 (fun b=>sb<b) y [.int .i64 z0,.int .i64 z1,.int .i64 z2,.int .i64 z3,.string z4,.slice z5 m5 d5,.slice z6 m6 d6]):=TrIs.mono hy fun b hb _=>by omega
  have hlw5:sb<w5.heap.size:=lt_of_block HSw5.out
  obtain⟨⟨a0,a1,a2,a3,a4,a5,a6,a7,a8,a9,a10,a11,a12,a13,a14⟩,hz⟩:=blkT HSw5.out
  have hz0:=hz 0
  have hz2:=hz 2
  have hz6:=hz 6
  have hz7:=hz 7
  have hz8:=hz 8
  have hz9:=hz 9
  have hz10:=hz 10
  have hz11:=hz 11
  have hz12:=hz 12
  obtain⟨w6,hwn⟩:∃wn,wn=(((((((((w5).setCell ⟨sb,0,none⟩ (.int .i64 5)).setCell ⟨sb,2,none⟩ (.string s)).setCell ⟨sb,6,none⟩ (.int .i64 z0)).setCell ⟨sb,7,none⟩ (.int .i64 z1)).setCell ⟨sb,8,none⟩ (.int .i64 z2)).setCell ⟨sb,9,none⟩ (.int .i64 z3)).setCell ⟨sb,10,none⟩ (.string z4)).setCell ⟨sb,11,none⟩ (.slice z5 m5 d5)).setCell ⟨sb,12,none⟩ (.slice z6 m6 d6):=⟨_,rfl⟩
  have hbn:Below sb w5 w6:=by
   rw[hwn]
   iterate 9 refine Below.setCell ?_ (by simp) _
   exact Below.refl _ _
  have hkn:Keeps (fun b=>sb<b) w5 w6:=⟨hbn.size,fun b hb _=>by rw[hwn];iterate 9 rw[Below.heap_setCell _ _ _ _ (by show b≠sb;omega)]⟩
  have HNw6:Hid (w6.heap[w.heap.size]? =some (.cells #[.int .i64 0,.int .i64 0,.string ⟨#[]⟩,.string ⟨#[]⟩,.bool false,.slice none 0 0,.int .i64 0,.int .i64 0,.int .i64 0,.int .i64 0,.string ⟨#[]⟩,.slice none 0 0,.slice none 0 0,.slice none 0 0,.slice none 0 0] 136 (0,0))):=(hbn.block _ (by omega)).trans HNw5.out
  have HSw6:Hid (w6.heap[sb]? =some (.cells #[.int .i64 5,.int .i64 p,.string s,.string ⟨#[]⟩,.bool false,.slice none 0 0,.int .i64 z0,.int .i64 z1,.int .i64 z2,.int .i64 z3,.string z4,.slice z5 m5 d5,.slice z6 m6 d6,.slice none 0 0,.slice none 0 0] 136 (0,0))):=by
   have h9:=HSw5.out
   show _=_
   rw[hwn]
   simp[World.setCell,Array.getElem?_modify,h9]
  have HGw6:Hid (GoF w.heap.size w w6 rb e bl pr res (fun ts=>(Par.must e [59] ts).bind fun _ r=>.ok (.mk 5 p s (ba []) false [] y [] []) r) r5 v5):=hg5.later (hbn.mono (by omega))
  have hlw6:sb<w6.heap.size:=lt_of_block HSw6.out
  have HYw6:Hid (TrIs w6 (fun b=>sb<b) y [.int .i64 z0,.int .i64 z1,.int .i64 z2,.int .i64 z3,.string z4,.slice z5 m5 d5,.slice z6 m6 d6]):=HYw5.out.keeps hkn
  clear hz hbn hkn
  clear hp hq5 hg5 hy
  go_wp2_with fail
  rw[←hwn]
  clear hwn a0 a1 a2 a3 a4 a5 a6 a7 a8 a9 a10 a11 a12 a13 a14
  refine(rMust_any ⟨#[59]⟩ (by decide) HGw6.out.rd).mono ?_
  intro x wz hp
  rcases goF_of (P:=Par.must e [59]) HGw6.out (by omega) hp with⟨a9,r9,u,v9,rfl,rfl,hq9,hg9⟩|⟨hgr,c,q,hr,rfl,r,v',hrd⟩
  rotate_left
  ·exact⟨rfl,hgr.grown,.inr ⟨c,q,hr,rfl,r,v',hrd⟩⟩
  have HST:Hid (StIs wz (fun b=>sb<b) _ [.int .i64 5,.int .i64 p,.string s,.string ⟨#[]⟩,.bool false,.slice none 0 0,.int .i64 z0,.int .i64 z1,.int .i64 z2,.int .i64 z3,.string z4,.slice z5 m5 d5,.slice z6 m6 d6,.slice none 0 0,.slice none 0 0]):=StIs.keeps (StIs.of (a:=[]) (b:=[]) HSZ.out (by decide) (labNone _ _) HYw6.out (RwV.none _ _ _ _) (RwV.none _ _ _ _)) (Keeps.of_grown hq9 fun b hb=>by simp;omega)
  have hn9:=go_blk hq9 HNw6.out (by omega)
  have hs9:=go_blk hq9 HSw6.out (by omega)
  have HN9:Hid (wz.heap[w.heap.size]? =some (.cells #[.int .i64 0,.int .i64 0,.string ⟨#[]⟩,.string ⟨#[]⟩,.bool false,.slice none 0 0,.int .i64 0,.int .i64 0,.int .i64 0,.int .i64 0,.string ⟨#[]⟩,.slice none 0 0,.slice none 0 0,.slice none 0 0,.slice none 0 0] 136 (0,0))):=hn9
  have HG9:Hid _:=hg9
  obtain⟨⟨b0,b1,b2,b3,b4,b5,b6,b7,b8,b9,b10,b11,b12,b13,b14⟩,hzn⟩:=blkT hn9
  obtain⟨⟨x0,x1,x2,x3,x4,x5,x6,x7,x8,x9,x10,x11,x12,x13,x14⟩,_⟩:=blkT hs9
  have y0:=hzn 0
  have y1:=hzn 1
  have y2:=hzn 2
  have y3:=hzn 3
  have y4:=hzn 4
  have y5:=hzn 5
  have y6:=hzn 6
  have y7:=hzn 7
  have y8:=hzn 8
  have y9:=hzn 9
  have y10:=hzn 10
  have y11:=hzn 11
  have y12:=hzn 12
  have y13:=hzn 13
  have y14:=hzn 14
  have l9:=lt_of_block hn9
  have l8:=lt_of_block hs9
  clear hp hq9 hg9 hn9 hs9 hzn
  go_wp2
  obtain⟨wf,hwf⟩:∃wf,wf=(((((((((((((((wz).setCell ⟨w.heap.size,0,none⟩ (.int .i64 5)).setCell ⟨w.heap.size,1,none⟩ (.int .i64 p)).setCell ⟨w.heap.size,2,none⟩ (.string s)).setCell ⟨w.heap.size,3,none⟩ (.string ⟨#[]⟩)).setCell ⟨w.heap.size,4,none⟩ (.bool false)).setCell ⟨w.heap.size,5,none⟩ (.slice none 0 0)).setCell ⟨w.heap.size,6,none⟩ (.int .i64 z0)).setCell ⟨w.heap.size,7,none⟩ (.int .i64 z1)).setCell ⟨w.heap.size,8,none⟩ (.int .i64 z2)).setCell ⟨w.heap.size,9,none⟩ (.int .i64 z3)).setCell ⟨w.heap.size,10,none⟩ (.string z4)).setCell ⟨w.heap.size,11,none⟩ (.slice z5 m5 d5)).setCell ⟨w.heap.size,12,none⟩ (.slice z6 m6 d6)).setCell ⟨w.heap.size,13,none⟩ (.slice none 0 0)).setCell ⟨w.heap.size,14,none⟩ (.slice none 0 0):=⟨_,rfl⟩
  have hbf:Below w.heap.size wz wf:=by
   rw[hwf]
   iterate 15 refine Below.setCell ?_ (by simp) _
   exact Below.refl _ _
  have hkf:Keeps (fun b=>sb<b) wz wf:=⟨hbf.size,fun b hb _=>by rw[hwf];iterate 15 rw[Below.heap_setCell _ _ _ _ (by show b≠w.heap.size;omega)]⟩
  have hnf:wf.heap[w.heap.size]? =some (.cells #[.int .i64 5,.int .i64 p,.string s,.string ⟨#[]⟩,.bool false,.slice none 0 0,.int .i64 z0,.int .i64 z1,.int .i64 z2,.int .i64 z3,.string z4,.slice z5 m5 d5,.slice z6 m6 d6,.slice none 0 0,.slice none 0 0] 136 (0,0)):=by rw[hwf];simp[World.setCell,Array.getElem?_modify,HN9.out]
  rw[←hwf]
  exact stm_ret HG9.out hnf HST.out hkf hbf (by omega) rfl
 by_cases h4:tx=Par.wTake
 ·have q0:((ba tx).toList==[105,102])=false:=by rw[ba_list];exact beq_eq_false_iff_ne.mpr (fun h=>h0 h)
  have q1:((ba tx).toList==[119,104,105,108,101])=false:=by rw[ba_list];exact beq_eq_false_iff_ne.mpr (fun h=>h1 h)
  have q2:((ba tx).toList==[118,97,114])=false:=by rw[ba_list];exact beq_eq_false_iff_ne.mpr (fun h=>h2 h)
  have q3:((ba tx).toList==[115,101,110,100])=false:=by rw[ba_list];exact beq_eq_false_iff_ne.mpr (fun h=>h3 h)
  have q4:((ba tx).toList==[116,97,107,101])=true:=by rw[ba_list,h4];decide
  obtain⟨t,r0,rfl⟩:∃t r0,ts=t::r0:=by
   cases ts with
   | nil=>have h9:=HTX.out;rw[h4] at h9;cases h9
   | cons t r0=>exact⟨t,r0,rfl⟩
  have htt:t.2.2=tx:=HTX.out.symm
  have HEQ:Hid (res=(fun ts=>(Par.nameR e ts).bind fun s r1=>(Par.nameR e r1).bind fun o r2=>Par.semi e (.mk 6 p s o false [] Par.noE [] []) r2) r0):=by
   show _=_
   rw[HRS.out]
   unfold Par.stmF
   rw[if_neg (by rw[←HTX.out];exact h0)]
   rw[if_neg (by rw[←HTX.out];exact h1)]
   rw[if_neg (by rw[←HTX.out];exact h2)]
   rw[if_neg (by rw[←HTX.out];exact h3)]
   rw[if_pos (by rw[←HTX.out];exact h4)]
   rw[HP0.out]
   rfl
  have HTK:=rTake_any HR2.out
  clear htt h4
  go_wp2_with fail
  refine HTK.mono ?_
  rintro x w3 ⟨rfl,hq3,v3,hrd3⟩
  have HGw3:Hid (GoF w.heap.size w w3 rb e bl pr res (fun ts=>(Par.nameR e ts).bind fun s r1=>(Par.nameR e r1).bind fun o r2=>Par.semi e (.mk 6 p s o false [] Par.noE [] []) r2) r0 v3):=⟨HF2.out.trans (Fr.of_grown hq3 (by omega)),hrd3,HEQ.out,hlt⟩
  have HNw3:Hid (w3.heap[w.heap.size]? =some (.cells #[.int .i64 0,.int .i64 0,.string ⟨#[]⟩,.string ⟨#[]⟩,.bool false,.slice none 0 0,.int .i64 0,.int .i64 0,.int .i64 0,.int .i64 0,.string ⟨#[]⟩,.slice none 0 0,.slice none 0 0,.slice none 0 0,.slice none 0 0] 136 (0,0))):=go_blk hq3 HN2.out (by omega)
  have HSw3:Hid (w3.heap[sb]? =some (.cells #[.int .i64 0,.int .i64 p,.string ⟨#[]⟩,.string ⟨#[]⟩,.bool false,.slice none 0 0,.int .i64 0,.int .i64 0,.int .i64 0,.int .i64 0,.string ⟨#[]⟩,.slice none 0 0,.slice none 0 0,.slice none 0 0,.slice none 0 0] 136 (0,0))):=go_blk hq3 HS2.out (by omega)
  have hlw3:sb<w3.heap.size:=lt_of_block HSw3.out
  clear hq3 hrd3 HTK
  go_wp2_with fail
  refine(rName_any HGw3.out.rd).mono ?_
  intro x w4 hp
  rcases goF_of HGw3.out (by omega) hp with⟨s,r4,u,v4,rfl,⟨rfl,hsz⟩,hq4,hg4⟩|⟨hgr,c,q,hr,rfl,r,v',hrd⟩
  rotate_left
  ·exact⟨rfl,hgr.grown,.inr ⟨c,q,hr,rfl,r,v',hrd⟩⟩
  have HNw4:Hid (w4.heap[w.heap.size]? =some (.cells #[.int .i64 0,.int .i64 0,.string ⟨#[]⟩,.string ⟨#[]⟩,.bool false,.slice none 0 0,.int .i64 0,.int .i64 0,.int .i64 0,.int .i64 0,.string ⟨#[]⟩,.slice none 0 0,.slice none 0 0,.slice none 0 0,.slice none 0 0] 136 (0,0))):=go_blk hq4 HNw3.out (by omega)
  have HSw4:Hid (w4.heap[sb]? =some (.cells #[.int .i64 0,.int .i64 p,.string ⟨#[]⟩,.string ⟨#[]⟩,.bool false,.slice none 0 0,.int .i64 0,.int .i64 0,.int .i64 0,.int .i64 0,.string ⟨#[]⟩,.slice none 0 0,.slice none 0 0,.slice none 0 0,.slice none 0 0] 136 (0,0))):=go_blk hq4 HSw3.out (by omega)
  have hlw4:sb<w4.heap.size:=lt_of_block HSw4.out
  have HGw4:Hid (GoF w.heap.size w w4 rb e bl pr res (fun ts=>(Par.nameR e ts).bind fun o r2=>Par.semi e (.mk 6 p s o false [] Par.noE [] []) r2) r4 v4):=hg4
  have HSZ:Hid (s.size≤maxLen):=hsz
  have hlw4:sb<w4.heap.size:=lt_of_block HSw4.out
  clear hp hq4 hg4 hsz
  go_wp2_with fail
  refine(rName_any HGw4.out.rd).mono ?_
  intro x w5 hp
  rcases goF_of HGw4.out (by omega) hp with⟨o,r5,u,v5,rfl,⟨rfl,hsz⟩,hq5,hg5⟩|⟨hgr,c,q,hr,rfl,r,v',hrd⟩
  rotate_left
  ·exact⟨rfl,hgr.grown,.inr ⟨c,q,hr,rfl,r,v',hrd⟩⟩
  have HNw5:Hid (w5.heap[w.heap.size]? =some (.cells #[.int .i64 0,.int .i64 0,.string ⟨#[]⟩,.string ⟨#[]⟩,.bool false,.slice none 0 0,.int .i64 0,.int .i64 0,.int .i64 0,.int .i64 0,.string ⟨#[]⟩,.slice none 0 0,.slice none 0 0,.slice none 0 0,.slice none 0 0] 136 (0,0))):=go_blk hq5 HNw4.out (by omega)
  have HSw5:Hid (w5.heap[sb]? =some (.cells #[.int .i64 0,.int .i64 p,.string ⟨#[]⟩,.string ⟨#[]⟩,.bool false,.slice none 0 0,.int .i64 0,.int .i64 0,.int .i64 0,.int .i64 0,.string ⟨#[]⟩,.slice none 0 0,.slice none 0 0,.slice none 0 0,.slice none 0 0] 136 (0,0))):=go_blk hq5 HSw4.out (by omega)
  have hlw5:sb<w5.heap.size:=lt_of_block HSw5.out
  have HSO:Hid (o.size≤maxLen):=hsz
  have hlw5:sb<w5.heap.size:=lt_of_block HSw5.out
  obtain⟨⟨a0,a1,a2,a3,a4,a5,a6,a7,a8,a9,a10,a11,a12,a13,a14⟩,hz⟩:=blkT HSw5.out
  have hz0:=hz 0
  have hz2:=hz 2
  have hz3:=hz 3
  obtain⟨w6,hwn⟩:∃wn,wn=(((w5).setCell ⟨sb,0,none⟩ (.int .i64 6)).setCell ⟨sb,2,none⟩ (.string s)).setCell ⟨sb,3,none⟩ (.string o):=⟨_,rfl⟩
  have hbn:Below sb w5 w6:=by
   rw[hwn]
   iterate 3 refine Below.setCell ?_ (by simp) _
   exact Below.refl _ _
  have hkn:Keeps (fun b=>sb<b) w5 w6:=⟨hbn.size,fun b hb _=>by rw[hwn];iterate 3 rw[Below.heap_setCell _ _ _ _ (by show b≠sb;omega)]⟩
  have HNw6:Hid (w6.heap[w.heap.size]? =some (.cells #[.int .i64 0,.int .i64 0,.string ⟨#[]⟩,.string ⟨#[]⟩,.bool false,.slice none 0 0,.int .i64 0,.int .i64 0,.int .i64 0,.int .i64 0,.string ⟨#[]⟩,.slice none 0 0,.slice none 0 0,.slice none 0 0,.slice none 0 0] 136 (0,0))):=(hbn.block _ (by omega)).trans HNw5.out
  have HSw6:Hid (w6.heap[sb]? =some (.cells #[.int .i64 6,.int .i64 p,.string s,.string o,.bool false,.slice none 0 0,.int .i64 0,.int .i64 0,.int .i64 0,.int .i64 0,.string ⟨#[]⟩,.slice none 0 0,.slice none 0 0,.slice none 0 0,.slice none 0 0] 136 (0,0))):=by
   have h9:=HSw5.out
   show _=_
   rw[hwn]
   simp[World.setCell,Array.getElem?_modify,h9]
  have HGw6:Hid (GoF w.heap.size w w6 rb e bl pr res (fun ts=>(Par.must e [59] ts).bind fun _ r=>.ok (.mk 6 p s o false [] Par.noE [] []) r) r5 v5):=hg5.later (hbn.mono (by omega))
  have hlw6:sb<w6.heap.size:=lt_of_block HSw6.out
  clear hz hbn hkn
  clear hp hq5 hg5 hsz
  go_wp2_with fail
  rw[←hwn]
  clear hwn a0 a1 a2 a3 a4 a5 a6 a7 a8 a9 a10 a11 a12 a13 a14
  refine(rMust_any ⟨#[59]⟩ (by decide) HGw6.out.rd).mono ?_
  intro x wz hp
  rcases goF_of (P:=Par.must e [59]) HGw6.out (by omega) hp with⟨a9,r9,u,v9,rfl,rfl,hq9,hg9⟩|⟨hgr,c,q,hr,rfl,r,v',hrd⟩
  rotate_left
  ·exact⟨rfl,hgr.grown,.inr ⟨c,q,hr,rfl,r,v',hrd⟩⟩
  have HST:Hid (StIs wz (fun b=>sb<b) _ [.int .i64 6,.int .i64 p,.string s,.string o,.bool false,.slice none 0 0,.int .i64 0,.int .i64 0,.int .i64 0,.int .i64 0,.string ⟨#[]⟩,.slice none 0 0,.slice none 0 0,.slice none 0 0,.slice none 0 0]):=StIs.keeps (StIs.of (a:=[]) (b:=[]) HSZ.out HSO.out (labNone _ _) (trNone _ _) (RwV.none _ _ _ _) (RwV.none _ _ _ _)) (Keeps.of_grown hq9 fun b hb=>by simp;omega)
  have hn9:=go_blk hq9 HNw6.out (by omega)
  have hs9:=go_blk hq9 HSw6.out (by omega)
  have HN9:Hid (wz.heap[w.heap.size]? =some (.cells #[.int .i64 0,.int .i64 0,.string ⟨#[]⟩,.string ⟨#[]⟩,.bool false,.slice none 0 0,.int .i64 0,.int .i64 0,.int .i64 0,.int .i64 0,.string ⟨#[]⟩,.slice none 0 0,.slice none 0 0,.slice none 0 0,.slice none 0 0] 136 (0,0))):=hn9
  have HG9:Hid _:=hg9
  obtain⟨⟨b0,b1,b2,b3,b4,b5,b6,b7,b8,b9,b10,b11,b12,b13,b14⟩,hzn⟩:=blkT hn9
  obtain⟨⟨x0,x1,x2,x3,x4,x5,x6,x7,x8,x9,x10,x11,x12,x13,x14⟩,_⟩:=blkT hs9
  have y0:=hzn 0
  have y1:=hzn 1
  have y2:=hzn 2
  have y3:=hzn 3
  have y4:=hzn 4
  have y5:=hzn 5
  have y6:=hzn 6
  have y7:=hzn 7
  have y8:=hzn 8
  have y9:=hzn 9
  have y10:=hzn 10
  have y11:=hzn 11
  have y12:=hzn 12
  have y13:=hzn 13
  have y14:=hzn 14
  have l9:=lt_of_block hn9
  have l8:=lt_of_block hs9
  clear hp hq9 hg9 hn9 hs9 hzn
  go_wp2
  obtain⟨wf,hwf⟩:∃wf,wf=(((((((((((((((wz).setCell ⟨w.heap.size,0,none⟩ (.int .i64 6)).setCell ⟨w.heap.size,1,none⟩ (.int .i64 p)).setCell ⟨w.heap.size,2,none⟩ (.string s)).setCell ⟨w.heap.size,3,none⟩ (.string o)).setCell ⟨w.heap.size,4,none⟩ (.bool false)).setCell ⟨w.heap.size,5,none⟩ (.slice none 0 0)).setCell ⟨w.heap.size,6,none⟩ (.int .i64 0)).setCell ⟨w.heap.size,7,none⟩ (.int .i64 0)).setCell ⟨w.heap.size,8,none⟩ (.int .i64 0)).setCell ⟨w.heap.size,9,none⟩ (.int .i64 0)).setCell ⟨w.heap.size,10,none⟩ (.string ⟨#[]⟩)).setCell ⟨w.heap.size,11,none⟩ (.slice none 0 0)).setCell ⟨w.heap.size,12,none⟩ (.slice none 0 0)).setCell ⟨w.heap.size,13,none⟩ (.slice none 0 0)).setCell ⟨w.heap.size,14,none⟩ (.slice none 0 0):=⟨_,rfl⟩
  have hbf:Below w.heap.size wz wf:=by
   rw[hwf]
   iterate 15 refine Below.setCell ?_ (by simp) _
   exact Below.refl _ _
  have hkf:Keeps (fun b=>sb<b) wz wf:=⟨hbf.size,fun b hb _=>by rw[hwf];iterate 15 rw[Below.heap_setCell _ _ _ _ (by show b≠w.heap.size;omega)]⟩
  have hnf:wf.heap[w.heap.size]? =some (.cells #[.int .i64 6,.int .i64 p,.string s,.string o,.bool false,.slice none 0 0,.int .i64 0,.int .i64 0,.int .i64 0,.int .i64 0,.string ⟨#[]⟩,.slice none 0 0,.slice none 0 0,.slice none 0 0,.slice none 0 0] 136 (0,0)):=by rw[hwf];simp[World.setCell,Array.getElem?_modify,HN9.out]
  rw[←hwf]
  exact stm_ret HG9.out hnf HST.out hkf hbf (by omega) rfl
 rcases HIN.out with h | h
 ·exact absurd h h3
 ·exact absurd h h4
end Go.Proofs.YtepkhlpjgnckkaaGreatDoor
